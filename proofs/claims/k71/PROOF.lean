import PyProof.Rows.All
import Wide.All
import OpenK.AllK
import Wide.FinOn
import Lean
import PyProof.EqAt
import PyProof.EqKinds
import PyProof.TupleCall
import PyProof.CompFree
import PyProof.NeKinds
import PyProof.Rows.SumAny
import KE.LcSums
import PyProof.EnumFor
import PyProof.EnumMake
import PyProof.EnumStmt
import PyProof.CompUse
import PySem.Challenge.RW_anymeaning_k71_shorter_ones
section
set_option Elab.async false
set_option linter.all false
set_option maxRecDepth 100000
/-! THE HAND LAYER, for ints, bools, texts, own classes, LISTS and tuples (index, slices, in, append, pop ..), calls, loops. Paste it whole ahead of your own text; what your proof does not reach may be deleted. -/
namespace L2
open PySem PySem.Spec PyProof.Rows
/-- a key: an int or a str -/
abbrev Key := Sum Int Str
def keyIs : Key → Value → Bool
  | .inl k, v => Value.isInt k v
  | .inr x, v => Value.isStrOf x v
def keyH (w : World) : Key → Int
  | .inl k => hashInt k
  | .inr x => hashStr w x
theorem keyIs_shape : ∀ {k : Key} {v : Value}, keyIs k v = true → (∃ i t, k = Sum.inl i ∧ v = Value.int i t) ∨ (∃ x t, k = Sum.inr x ∧ v = Value.str x t)
  | .inl i, v, h => by
    obtain ⟨t, e⟩ := Value.isInt_shape (k := i) (v := v) h
    exact .inl ⟨i, t, rfl, e⟩
  | .inr x, v, h => by
    obtain ⟨t, e⟩ := Value.isStrOf_shape (x := x) (v := v) h
    exact .inr ⟨x, t, rfl, e⟩
theorem key_ll (a b : Int) : decide ((Sum.inl a : Key) = Sum.inl b) = (a == b) := by
  by_cases e : a = b
  · subst e; simp
  · have h : ¬ (Sum.inl a : Key) = Sum.inl b := fun q => e (Sum.inl.inj q)
    rw [decide_eq_false h]
    exact (beq_eq_false_iff_ne.mpr e).symm
theorem key_rr (a b : Str) : decide ((Sum.inr a : Key) = Sum.inr b) = decide (a = b) := by
  by_cases e : a = b
  · subst e; simp
  · have h : ¬ (Sum.inr a : Key) = Sum.inr b := fun q => e (Sum.inr.inj q)
    rw [decide_eq_false h, decide_eq_false e]
theorem key_lr (a : Int) (b : Str) : decide ((Sum.inl a : Key) = Sum.inr b) = false := decide_eq_false (fun q => nomatch q)
theorem key_rl (a : Str) (b : Int) : decide ((Sum.inr a : Key) = Sum.inl b) = false := decide_eq_false (fun q => nomatch q)
def mixKind (prog : Program) (w : World) : PySem.KeyKind prog w Key where
  is := keyIs
  hash := keyH w
  inj := fun v a b ha hb => by
    rcases keyIs_shape ha with ⟨i, t, rfl, rfl⟩ | ⟨x, t, rfl, rfl⟩
    · rcases keyIs_shape hb with ⟨j, u, rfl, e⟩ | ⟨y, u, rfl, e⟩
      · injection e with e1 _; rw [e1]
      · exact nomatch e
    · rcases keyIs_shape hb with ⟨j, u, rfl, e⟩ | ⟨y, u, rfl, e⟩
      · exact nomatch e
      · injection e with e1 _; rw [e1]
  byValue := fun k v h => by
    rcases keyIs_shape h with ⟨i, t, rfl, rfl⟩ | ⟨x, t, rfl, rfl⟩ <;> rfl
  pyHash := fun hv h => by
    rcases keyIs_shape hv with ⟨i, t, rfl, rfl⟩ | ⟨x, t, rfl, rfl⟩
    · exact wpAny_pyHash_int h
    · exact wpAny_pyHash_str h
  eqBool := fun hu hv h => by
    rcases keyIs_shape hu with ⟨i, t, rfl, rfl⟩ | ⟨x, t, rfl, rfl⟩
    · rcases keyIs_shape hv with ⟨j, u, rfl, rfl⟩ | ⟨y, u, rfl, rfl⟩
      · rw [key_ll] at h; exact wpAny_eqBool_int h
      · rw [key_lr] at h; exact SeqAt.EqAt.int_str i t y u _ _ _ _ h
    · rcases keyIs_shape hv with ⟨j, u, rfl, rfl⟩ | ⟨y, u, rfl, rfl⟩
      · rw [key_rl] at h; exact SeqAt.EqAt.str_int x t j u _ _ _ _ h
      · rw [key_rr] at h; exact wpAny_eqBool_str h
  «strs» := fun k x t v h => by
    rcases keyIs_shape h with ⟨i, u, rfl, e⟩ | ⟨y, u, rfl, e⟩
    · exact nomatch e
    · injection e with e1 _
      subst e1
      cases v <;> rfl
end L2
namespace L2
open PySem PySem.Spec PyProof.Rows
/-- a value, without the heap -/
inductive V where
  | non | bl (b : Bool) | int (i : Int) | str (x : Str) | byt (b : Array UInt8) | flt (b : UInt64) | ref (a : Addr) | ty (n : String)
  deriving DecidableEq
def RelV : V → Value → Prop
  | .non, u => u = Value.none
  | .bl b, u => u = Value.bool b
  | .int i, u => ∃ t, u = Value.int i t
  | .str x, u => ∃ t, u = Value.str x t
  | .byt b, u => ∃ t, u = Value.bytes b t
  | .flt b, u => ∃ t, u = Value.float b t
  | .ref a, u => u = Value.ref a
  | .ty n, u => u = Value.type n
abbrev Vals : List V → List Value → Prop := Paired RelV
theorem Vals.length {xs : List V} {us : List Value} (r : Vals xs us) : xs.length = us.length := Paired.length r
theorem Vals.get : ∀ {xs : List V} {us : List Value} {i : Nat} {x : V}, Vals xs us → xs[i]? = some x → ∃ u, us[i]? = some u ∧ RelV x u
  | _, _, _, _, .nil, e => by simp at e
  | _, _, 0, _, .cons r _, e => by simp at e; subst e; exact ⟨_, rfl, r⟩
  | _, _, i + 1, x, .cons _ t, e => by
    obtain ⟨u, h1, h2⟩ := Vals.get (i := i) (x := x) t (by simpa using e)
    exact ⟨u, by simpa using h1, h2⟩
theorem Vals.set {x : V} {u : Value} (r : RelV x u) : ∀ {xs : List V} {us : List Value} (i : Nat), Vals xs us → Vals (xs.set i x) (us.set i u)
  | _, _, _, .nil => .nil
  | _, _, 0, .cons _ t => .cons r t
  | _, _, i + 1, .cons q t => .cons q (Vals.set r i t)
theorem Vals.append : ∀ {xs ys : List V} {us ws : List Value}, Vals xs us → Vals ys ws → Vals (xs ++ ys) (us ++ ws)
  | _, _, _, _, .nil, s => s
  | _, _, _, _, .cons r t, s => .cons r (Vals.append t s)
theorem Vals.take : ∀ {xs : List V} {us : List Value} (n : Nat), Vals xs us → Vals (xs.take n) (us.take n)
  | _, _, 0, _ => .nil
  | _, _, _ + 1, .nil => .nil
  | _, _, n + 1, .cons r t => .cons r (Vals.take n t)
theorem Vals.drop : ∀ {xs : List V} {us : List Value} (n : Nat), Vals xs us → Vals (xs.drop n) (us.drop n)
  | _, _, 0, r => r
  | _, _, _ + 1, .nil => .nil
  | _, _, n + 1, .cons _ t => Vals.drop n t
theorem Vals.none_of : ∀ {xs : List V} {us : List Value} {i : Nat}, Vals xs us → xs[i]? = none → us[i]? = none := fun {xs us i} r e => by
  have h1 := r.length
  have h2 : xs.length ≤ i := List.getElem?_eq_none_iff.mp e
  exact List.getElem?_eq_none_iff.mpr (by omega)
def RelO : Option V → Option Value → Prop
  | some v, some u => RelV v u
  | none, none => True
  | _, _ => False
def KV {κ : Type} : List (κ × V) → List (κ × Value) → Prop := Paired fun (p : κ × V) (q : κ × Value) => p.1 = q.1 ∧ RelV p.2 q.2
/-- a key of a dict (00_mix): an int or a text -/
def kV : Key → V
  | .inl i => .int i
  | .inr x => .str x
/-- what stands at a tracked address -/
inductive HO where
  /-- a list -/
  | lst (xs : List V)
  /-- a tuple (never changes) -/
  | tup (xs : List V)
  /-- a dict whose keys are ints and texts; one whose keys are tuples of ints and texts (the empty one is both) -/
  | dK (kvs : List (Key × V)) | dT (kvs : List (List Key × V))
  /-- a set of ints: its members, its size -/
  | set (S : Int → Bool) (n : Nat)
  /-- an instance of the class at C, its dict at dx, its attributes -/
  | ins (C dx : Addr) (fs : List (Str × V))
  /-- the dict of the instance at x -/
  | own (x : Addr)
  /-- the dict of an exception -/
  | xd (fs : List (Str × V))
  /-- a bound method, f of x -/
  | met (f x : Addr)
  /-- a range object lo, lo + 1, .. below hi -/
  | rng (lo hi : Int)
  /-- a thing that is known to the object (the script; a dict while a loop walks it): read, never written while it is so -/
  | frz (o : Obj) (u : HO)
  /-- a code object's table -/
  | tbl (ps : Array Value)
  /-- any other thing, by what is true of its one object (a def of one's own: SetO a S n := HO.ext fun h => ..) -/
  | ext (φ : Heap → Prop)
abbrev Hp := Addr → Option HO
def upd (H : Hp) (a : Addr) (o : HO) : Hp := fun b => if b = a then some o else H b
theorem upd_same {H : Hp} {a : Addr} {o : HO} : upd H a o a = some o := by unfold upd; rw [if_pos rfl]
theorem upd_ne {H : Hp} {a b : Addr} {o : HO} (h : b ≠ a) : upd H a o b = H b := by unfold upd; rw [if_neg h]
theorem upd_upd {H : Hp} {a : Addr} {o u : HO} : upd (upd H a o) a u = upd H a u := by
  funext b; unfold upd; split <;> rfl
theorem ne_of_none {H : Hp} {a b : Addr} {o : HO} (h : H a = some o) (h' : H b = none) : a ≠ b := by
  intro e; subst e; rw [h] at h'; cases h'
section
variable (P : Program) (w : World)
def ObjOk (H : Hp) (h : Heap) (a : Addr) : HO → Prop
  | .lst xs => xs.length ≤ sizeLine ∧ ∃ (its : List Value) (n : Nat), Vals xs its ∧ h.get? a = some { cls := .type "list", data := .seq its.toArray n }
  | .tup xs => xs.length ≤ sizeLine ∧ ∃ its : List Value, Vals xs its ∧ IsTup h a its.toArray
  | .dK kvs => kvs.length ≤ sizeLine ∧ (a == sysModules) = false ∧ ∃ vs, KV kvs vs ∧ h.DictOf (mixKind P w) a vs
  | .dT kvs => kvs.length ≤ sizeLine ∧ (a == sysModules) = false ∧ ∃ xs : List (List Key × Addr × Value),
      Paired (fun (p : List Key × V) (q : List Key × Addr × Value) => p.1 = q.1 ∧ H q.2.1 = some (.tup (p.1.map kV)) ∧ RelV p.2 q.2.2) kvs xs ∧
      ∃ o es ep, h.get? a = some o ∧ o.ExactDict ∧ o.data = .dict es ep ∧ es.toList = xs.map (entryOfKey (tupleKind (mixKind P w))) ∧ (xs.map (·.1)).Nodup
  | .set S n => h.SetOf (intKind P w) a S n
  | .ins C dx fs => H dx = some (.own a) ∧ fs.length ≤ 1000 ∧ dx ≠ a ∧ h.get? a = some (PySem.W.instObj C dx) ∧
      ∃ mA, h.Ns1 dx mA ∧ (∀ f, RelO (fs.lookup f) (mA f)) ∧ PySem.Within mA (fs.map (·.1))
  | .own _ => ∃ o, h.get? a = some o
  | .xd fs => ∃ mA, h.Ns1 a mA ∧ ∀ f, RelO (fs.lookup f) (mA f)
  | .rng lo hi => ∃ t u v, h.get? a = some { cls := .type "range", data := .fields #[.int lo t, .int hi u, .int 1 v] }
  | .frz o u => h.get? a = some o ∧ ObjOk H h a u
  | .tbl ps => h.get? a = some { cls := .none, data := .fields ps }
  | .met f x => h.get? a = some (PySem.W.methodObj (.ref f) (.ref x))
  | .ext φ => φ h ∧ (∃ o, h.get? a = some o) ∧ ∀ h1 h2 : Heap, φ h1 → (∀ o, h1.get? a = some o → h2.get? a = some o) → φ h2
/-- the abstract heap is held -/
def HOk (H : Hp) (h : Heap) : Prop := ∀ a o, H a = some o → ObjOk P w H h a o
end
section
variable {P : Program} {w : World} {H H' : Hp} {h h' : Heap} {a : Addr} {o : HO}
theorem ObjOk.lt (x : ObjOk P w H h a o) : a < h.objs.size := by
  cases o with
  | lst xs => obtain ⟨_, _, _, _, e⟩ := x; exact Heap.lt_size e
  | tup xs => obtain ⟨_, _, _, p⟩ := x; exact p.lt
  | dK kvs => obtain ⟨_, _, _, _, o, _, _, e, _⟩ := x; exact Heap.lt_size e
  | dT kvs => obtain ⟨_, _, _, _, o, _, _, e, _⟩ := x; exact Heap.lt_size e
  | set S n => obtain ⟨o, _, _, _, e, _⟩ := x; exact Heap.lt_size e
  | ins C dx fs => obtain ⟨_, _, _, e, _⟩ := x; exact Heap.lt_size e
  | own y => obtain ⟨_, e⟩ := x; exact Heap.lt_size e
  | xd fs => obtain ⟨_, ⟨_, _, _, e, _⟩, _⟩ := x; exact Heap.lt_size e
  | rng lo hi => obtain ⟨_, _, _, e⟩ := x; exact Heap.lt_size e
  | frz ob u => obtain ⟨e, _⟩ := x; exact Heap.lt_size e
  | tbl ps => exact Heap.lt_size (show h.get? a = some _ from x)
  | met f y => exact Heap.lt_size (show h.get? a = some _ from x)
  | ext φ => obtain ⟨_, ⟨_, e⟩, _⟩ := x; exact Heap.lt_size e
theorem Paired.mapP {α β : Type} {F G : α → β → Prop} : ∀ {l₁ : List α} {l₂ : List β}, Paired F l₁ l₂ → (∀ a b, F a b → G a b) → Paired G l₁ l₂
  | _, _, .nil, _ => .nil
  | _, _, .cons r t, f => .cons (f _ _ r) (Paired.mapP t f)
/-- what an object's description leans on: its own object, its own dict, the tuples -/
theorem ObjOk.stay (x : ObjOk P w H h a o) (k : ∀ b u, (b = a ∨ H b = some (.own a)) → h.get? b = some u → h'.get? b = some u)
    (ho : ∀ b, H b = some (.own a) → H' b = some (.own a)) (ht : ∀ b xs, H b = some (.tup xs) → H' b = some (.tup xs)) : ObjOk P w H' h' a o := by
  induction o with
  | lst xs => obtain ⟨z, its, n, r, e⟩ := x; exact ⟨z, its, n, r, k _ _ (.inl rfl) e⟩
  | tup xs => obtain ⟨z, its, r, ob, e, c⟩ := x; exact ⟨z, its, r, ob, k _ _ (.inl rfl) e, c⟩
  | dK kvs => obtain ⟨z, y, vs, r, ob, es, ep, e, c⟩ := x; exact ⟨z, y, vs, r, ob, es, ep, k _ _ (.inl rfl) e, c⟩
  | dT kvs =>
    obtain ⟨z, y, xs, r, ob, es, ep, e, c⟩ := x
    exact ⟨z, y, xs, Paired.mapP r fun p q z => ⟨z.1, ht _ _ z.2.1, z.2.2⟩, ob, es, ep, k _ _ (.inl rfl) e, c⟩
  | set S n => obtain ⟨ob, es, ep, t, e, c⟩ := x; exact ⟨ob, es, ep, t, k _ _ (.inl rfl) e, c⟩
  | ins C dx fs =>
    obtain ⟨d, z, ne, e, mA, ⟨od, es, ep, e2, c⟩, r⟩ := x
    exact ⟨ho _ d, z, ne, k _ _ (.inl rfl) e, mA, ⟨od, es, ep, k _ _ (.inr d) e2, c⟩, r⟩
  | own y => obtain ⟨ob, e⟩ := x; exact ⟨ob, k _ _ (.inl rfl) e⟩
  | xd fs => obtain ⟨mA, ⟨od, es, ep, e, c⟩, r⟩ := x; exact ⟨mA, ⟨od, es, ep, k _ _ (.inl rfl) e, c⟩, r⟩
  | rng lo hi => obtain ⟨t, u, v, e⟩ := x; exact ⟨t, u, v, k _ _ (.inl rfl) e⟩
  | frz ob u ih => obtain ⟨e, q⟩ := x; exact ⟨k _ _ (.inl rfl) e, ih q⟩
  | tbl ps =>
    have e : h.get? a = some { cls := .none, data := .fields ps } := x
    show h'.get? a = some { cls := .none, data := .fields ps }
    exact k a _ (.inl rfl) e
  | met f y =>
    have e : h.get? a = some (PySem.W.methodObj (.ref f) (.ref y)) := x
    show h'.get? a = some (PySem.W.methodObj (.ref f) (.ref y))
    exact k a _ (.inl rfl) e
  | ext φ => obtain ⟨p, ⟨o, e⟩, st⟩ := x; exact ⟨st _ _ p fun o q => k _ _ (.inl rfl) q, ⟨o, k _ _ (.inl rfl) e⟩, st⟩
theorem HOk.lt (x : HOk P w H h) (e : H a = some o) : a < h.objs.size := (x a o e).lt
theorem HOk.fresh (x : HOk P w H h) (e : h.objs.size ≤ a) : H a = none := by
  cases q : H a with
  | none => rfl
  | some u => exact absurd (Nat.lt_of_lt_of_le (x.lt q) e) (Nat.lt_irrefl _)
/-- every object of the heap is kept -/
theorem HOk.kept (x : HOk P w H h) (k : ∀ b u, h.get? b = some u → h'.get? b = some u) : HOk P w H h' := fun a o e =>
  (x a o e).stay (fun b u _ q => k b u q) (fun _ q => q) fun _ _ q => q
/-- a new object is laid and tracked -/
theorem HOk.laid (x : HOk P w H h) (k : ∀ b u, h.get? b = some u → h'.get? b = some u) (hp : h.objs.size ≤ a) (new : ObjOk P w (upd H a o) h' a o) : HOk P w (upd H a o) h' := fun b u e => by
  have hn := x.fresh hp
  by_cases hb : b = a
  · subst hb; rw [upd_same] at e; cases e; exact new
  · rw [upd_ne hb] at e
    exact (x b u e).stay (fun c v _ q => k c v q) (fun c q => by rw [upd_ne (ne_of_none q hn)]; exact q) fun c xs q => by rw [upd_ne (ne_of_none q hn)]; exact q
end
/-- what may be read as u: it is u, or a known u -/
def Rd (H : Hp) (a : Addr) (u : HO) : Prop := H a = some u ∨ ∃ o, H a = some (.frz o u)
theorem Rd.of {H : Hp} {a : Addr} {u : HO} (h : H a = some u) : Rd H a u := .inl h
theorem Rd.ok {P : Program} {w : World} {H : Hp} {h : Heap} {a : Addr} {u : HO} (r : Rd H a u) (x : HOk P w H h) : ObjOk P w H h a u := by
  rcases r with r | ⟨o, r⟩
  · exact x a u r
  · obtain ⟨_, q⟩ := x a _ r
    exact q
/-- what may be written -/
def Mut : Option HO → Prop
  | some (.lst _) => True
  | some (.dK _) => True
  | some (.dT _) => True
  | some (.set _ _) => True
  | some (.ins _ _ _) => True
  | some (.ext _) => True
  | _ => False
section
variable {P : Program} {w : World} {H : Hp} {h h' : Heap} {x e : Addr} {o' : HO}
/-- the object at e is changed: x itself, or the dict of the instance x -/
theorem HOk.write (ok : HOk P w H h) (mu : Mut (H x)) (he : e = x ∨ H e = some (.own x)) (k : ∀ b u, b ≠ e → h.get? b = some u → h'.get? b = some u) (heo : ∃ u, h'.get? e = some u)
    (new : ObjOk P w (upd H x o') h' x o') : HOk P w (upd H x o') h' := fun b u q => by
  have nown : ∀ c y, H c = some (.own y) → c ≠ x := fun c y r z => by subst z; rw [r] at mu; exact mu
  have ntup : ∀ c xs, H c = some (.tup xs) → c ≠ x := fun c xs r z => by subst z; rw [r] at mu; exact mu
  by_cases hb : b = x
  · subst hb; rw [upd_same] at q; cases q; exact new
  · rw [upd_ne hb] at q
    by_cases hbe : b = e
    · have q' : H b = some (.own x) := by
        rcases he with z | z
        · exact absurd (hbe.trans z) hb
        · rw [hbe]; exact z
      rw [q] at q'; cases q'
      obtain ⟨v, hv⟩ := heo
      exact ⟨v, by rw [hbe]; exact hv⟩
    · refine (ok b u q).stay (fun c v hc r => k c v ?_ r) (fun c r => by rw [upd_ne (nown c b r)]; exact r) fun c xs r => by rw [upd_ne (ntup c xs r)]; exact r
      rcases hc with rfl | hc
      · exact hbe
      · rintro rfl
        rcases he with z | z
        · exact nown c b hc z
        · rw [hc] at z; cases z; exact hb rfl
end
/-! ### kept unless tracked; of the frames at fs (the callers') the slots may change (an exception that passes writes there); of the records at ex (iterators) nothing is said -/
structure Un (fs ex : List Addr) (H H' : Hp) (h h' : Heap) : Prop where
  keep : ∀ b o, h.get? b = some o → H b = none → b ∉ fs → b ∉ ex → h'.get? b = some o
  slot : ∀ b o, h.get? b = some o → H b = none → b ∈ fs → b ∉ ex → ∃ sl, h'.get? b = some { o with slots := sl }
  free : ∀ b o, h.get? b = some o → H b = none → b ∉ ex → H' b = none
  there : ∀ b o, h.get? b = some o → b ∉ ex → ∃ o', h'.get? b = some o'
  tups : ∀ b xs, H b = some (.tup xs) → H' b = some (.tup xs)
  frzs : ∀ b o u, H b = some (.frz o u) → H' b = some (.frz o u)
  tbls : ∀ b ps, H b = some (.tbl ps) → ∃ more, H' b = some (.tbl (ps ++ more))
section
variable {fs fs' ex ex' : List Addr} {H H1 H2 : Hp} {h h1 h2 h' : Heap} {a x e : Addr} {o : HO}
theorem Un.any (u : Un fs ex H H1 h h1) {b : Addr} {ob : Obj} (q : h.get? b = some ob) (n : H b = none) (hx : b ∉ ex) : ∃ sl, h1.get? b = some { ob with slots := sl } := by
  by_cases hb : b ∈ fs
  · exact u.slot b ob q n hb hx
  · exact ⟨ob.slots, u.keep b ob q n hb hx⟩
theorem Un.trans (a : Un fs ex H H1 h h1) (b : Un fs ex H1 H2 h1 h2) : Un fs ex H H2 h h2 where
  keep := fun c ob q n hc hx => b.keep c ob (a.keep c ob q n hc hx) (a.free c ob q n hx) hc hx
  slot := fun c ob q n hc hx => by
    obtain ⟨sl, e1⟩ := a.slot c ob q n hc hx
    obtain ⟨sl', e2⟩ := b.slot c _ e1 (a.free c ob q n hx) hc hx
    exact ⟨sl', e2⟩
  free := fun c ob q n hx => by
    obtain ⟨o', e1⟩ := a.there c ob q hx
    exact b.free c o' e1 (a.free c ob q n hx) hx
  there := fun c ob q hx => by
    obtain ⟨o', e1⟩ := a.there c ob q hx
    exact b.there c o' e1 hx
  tups := fun c xs q => b.tups c xs (a.tups c xs q)
  frzs := fun c ob xs q => b.frzs c ob xs (a.frzs c ob xs q)
  tbls := fun c ps q => by
    obtain ⟨m1, e1⟩ := a.tbls c ps q
    obtain ⟨m2, e2⟩ := b.tbls c _ e1
    exact ⟨m1 ++ m2, by rw [e2, Array.append_assoc]⟩
theorem Un.kept (k : ∀ b u, h.get? b = some u → h'.get? b = some u) : Un fs ex H H h h' :=
  ⟨fun b ob q _ _ _ => k b ob q, fun b ob q _ _ _ => ⟨ob.slots, k b ob q⟩, fun _ _ _ n _ => n, fun b ob q _ => ⟨ob, k b ob q⟩, fun _ _ q => q, fun _ _ _ q => q, fun _ ps q => ⟨#[], by rw [q]; simp⟩⟩
theorem Un.refl : Un fs ex H H h h := Un.kept fun _ _ q => q
theorem Un.laid (k : ∀ b u, h.get? b = some u → h'.get? b = some u) (hp : h.objs.size ≤ a) (hn : H a = none) : Un fs ex H (upd H a o) h h' where
  keep := fun b u q _ _ _ => k b u q
  slot := fun b u q _ _ _ => ⟨u.slots, k b u q⟩
  free := fun b u q n _ => by rw [upd_ne (Nat.ne_of_lt (Nat.lt_of_lt_of_le (Heap.lt_size q) hp))]; exact n
  there := fun b u q _ => ⟨u, k b u q⟩
  tups := fun b xs q => by rw [upd_ne (ne_of_none q hn)]; exact q
  frzs := fun b u xs q => by rw [upd_ne (ne_of_none q hn)]; exact q
  tbls := fun b ps q => ⟨#[], by rw [upd_ne (ne_of_none q hn), q]; simp⟩
theorem Un.write (mu : Mut (H x)) (he : e = x ∨ H e = some (.own x)) (k : ∀ b u, b ≠ e → h.get? b = some u → h'.get? b = some u) (heo : ∃ u, h'.get? e = some u) : Un fs ex H (upd H x o) h h' := by
  have hx : ∀ b, H b = none → b ≠ x := fun b n z => by subst z; rw [n] at mu; exact mu
  have hb : ∀ b, H b = none → b ≠ e := fun b n z => by
    subst z
    rcases he with r | r
    · exact hx b n r
    · rw [n] at r; cases r
  have hm : ∀ b u, H b = some u → ¬ Mut (some u) → b ≠ x := fun b u q nm z => by subst z; rw [q] at mu; exact nm mu
  refine ⟨fun b u q n _ _ => k b u (hb b n) q, fun b u q n _ _ => ⟨u.slots, k b u (hb b n) q⟩, fun b u q n _ => by rw [upd_ne (hx b n)]; exact n, fun b u q _ => ?_,
    fun b xs q => by rw [upd_ne (hm b _ q fun z => z)]; exact q, fun b u xs q => by rw [upd_ne (hm b _ q fun z => z)]; exact q, fun b ps q => ⟨#[], by rw [upd_ne (hm b _ q fun z => z), q]; simp⟩⟩
  by_cases hbe : b = e
  · subst hbe; exact heo
  · exact ⟨u, k b u hbe q⟩
theorem Un.mono (u : Un fs ex H H1 h h1) (hs : ∀ b ∈ fs, b ∈ fs') (hx : ∀ b ∈ ex, b ∈ ex') : Un fs' ex' H H1 h h1 :=
  ⟨fun b ob q n hb he => u.keep b ob q n (fun z => hb (hs b z)) fun z => he (hx b z), fun _ _ q n _ he => u.any q n fun z => he (hx _ z), fun b ob q n he => u.free b ob q n fun z => he (hx b z), fun b ob q he => u.there b ob q fun z => he (hx b z), u.tups, u.frzs, u.tbls⟩
end
/-! ### the heap without what is tracked -/
def trk (h : Heap) (H : Hp) : List Addr := (List.range h.objs.size).filter fun a => (H a).isSome
def hidT (h : Heap) (H : Hp) : Heap := PySem.W.hideAll h (trk h H)
theorem hidT_size (h : Heap) (H : Hp) : (hidT h H).objs.size = h.objs.size := PySem.W.hideAll_size _ _
theorem hidT_get {h : Heap} {H : Hp} {b : Addr} {o : Obj} (e : h.get? b = some o) (n : H b = none) : (hidT h H).get? b = some o :=
  PySem.W.hideAll_get _ e fun hm => by
    have q : (H b).isSome = true := (List.mem_filter.mp hm).2
    rw [n] at q; simp at q
theorem of_hidT {h : Heap} {H : Hp} {b : Addr} {o : Obj} (e : (hidT h H).get? b = some o) : h.get? b = some o ∧ H b = none := by
  have e' : h.get? b = some o := PySem.W.of_hideAll (trk h H) e
  refine ⟨e', ?_⟩
  cases q : H b with
  | none => rfl
  | some x =>
    have hm : b ∈ trk h H := List.mem_filter.mpr ⟨List.mem_range.mpr (Heap.lt_size e'), by simp [q]⟩
    have z : (hidT h H).get? b = none := PySem.W.hideAll_none (trk h H) hm
    rw [z] at e; cases e
/-! ### OpenK's ledger, filled with every new object but one -/
def allNews (g h : Heap) (L : Addr) : List (Addr × Obj) := (List.range h.objs.size).filterMap fun a => if a = L ∨ (g.get? a).isSome = true then none else (h.get? a).map fun o => (a, o)
def rest (g h : Heap) (L d : Addr) : List (Addr × Obj) := (allNews g h L).filter fun p => decide (p.1 ≠ d)
end L2
namespace L2
open PySem PySem.Spec PyProof.Rows
/-- the module's facts, over the base: the heap at the law's entry without what is tracked there -/
structure Mod (K : PySem.W.Frag) (mg : Str → Option Value) (base : Heap) : Prop where
  kin : K.In base
  glob : base.Ns mainGlobals mg
  blt : ∃ mb, base.Ns builtinsNs mb ∧ ∀ x : Str, x ≠ "__name__" → mb x = bootBuiltins x
  nolimit : base.NoLimit
/-- the context: a def's body (or a comprehension's block) running. base: fixed through the whole law; s₀, H₀: the entry; outer: the frames whose slots others may change (a def's callers); stack: all frames that run;
   ex: iterators that were made ahead of the entry and are walked here (a comprehension's); fn: the names whose cells were made at the entry (a def: all; a comprehension's block: its own); calm: not within an except suite; pn: pins that every state bears; xe: what is wanted of an exception that leaves the code -/
structure Cx where
  prog : Program
  w : World
  K : PySem.W.Frag
  mg : Str → Option Value
  base : Heap
  A : Around
  N : List Str
  s₀ : Shared
  H₀ : Hp
  env : Env
  outer : List Env
  stack : List Env
  ex : List Addr
  fn : Str → Bool
  calm : Bool
  pn : List (Addr × Obj)
  xe : Value → Shared → Prop
/-- the callers' frames -/
def frs (l : List Env) : List Addr := l.filterMap (·.frame)
abbrev Cx.fs (X : Cx) : List Addr := frs X.outer
def Vis (sc : Scope) (x : Str) : Prop := sc.names.lookup x = some .local ∨ sc.names.lookup x = some .cell ∨ sc.names.lookup x = some .free
def Loc (sc : Scope) (x : Str) : Prop := sc.names.lookup x = some .local ∨ sc.names.lookup x = some .cell
def Look (env : Env) (h : Heap) (m : Str → Option Value) (x : Str) (u : Value) : Prop :=
  (env.kindOf x = some .local ∧ m x = some u) ∨ ((env.kindOf x = some .cell ∨ env.kindOf x = some .free) ∧ ∃ c, env.cells.lookup x = some c ∧ h.IsCell c (some u))
structure Cx.Ok (X : Cx) : Prop where
  mod : Mod X.K X.mg X.base
  kind : X.env.scope.kind = .function
  glob : X.env.globals = mainGlobals
  blt : X.env.builtins = builtinsNs
  above : X.s₀.heap.objs.size ≤ X.env.locals
  inj : ∀ x y c, X.env.cells.lookup x = some c → X.env.cells.lookup y = some c → x = y
  has : ∀ x, (X.env.kindOf x = some .cell ∨ X.env.kindOf x = some .free) → ∃ c, X.env.cells.lookup x = some c
  cab : ∀ x c, X.fn x = true → X.env.cells.lookup x = some c → X.s₀.heap.objs.size ≤ c
  hd : X.calm = true → X.A.handled = none
  frames : X.A.frames = some X.stack
  stk : X.stack = X.outer ∨ (X.stack = X.env :: X.outer ∧ X.env.frame = some X.env.locals)
  exf : ∀ b ∈ X.ex, b ≠ X.env.locals ∧ ∀ x c, X.env.cells.lookup x = some c → c ≠ b
  bs : ∀ b o, X.base.get? b = some o → X.s₀.heap.get? b = some o ∧ X.H₀ b = none
  bsz : X.base.objs.size ≤ X.s₀.heap.objs.size
  noex : ∀ b o, X.base.get? b = some o → b ∉ X.ex
  exfs : ∀ b ∈ X.ex, b ∉ X.fs
  funs : X.s₀.heap.FunFrames X.base X.outer
  frf : ∀ b ∈ X.fs, X.H₀ b = none
structure Inv (X : Cx) (pins : List (Addr × Obj)) (σ : List (Option V)) (H : Hp) (s : Shared) : Prop where
  ok : X.Ok
  os : s.os = X.s₀.os
  bare : AllBare s.gens
  base : Un X.fs X.ex X.H₀ H X.s₀.heap s.heap
  loc : ∃ m, s.heap.Ns X.env.locals m ∧ ∀ (i : Nat) (x : Str) (v : V), X.N[i]? = some x → σ[i]? = some (some v) → Vis X.env.scope x → ∃ u, RelV v u ∧ Look X.env s.heap m x u
  cell : ∀ x c, X.env.cells.lookup x = some c → ∃ v, s.heap.IsCell c v
  free : H X.env.locals = none
  freeC : ∀ x c, X.env.cells.lookup x = some c → H c = none
  pin : ∀ p ∈ X.pn ++ pins, s.heap.get? p.1 = some p.2 ∧ H p.1 = none ∧ p.1 ≠ X.env.locals ∧ p.1 ∉ X.fs ∧ ∀ v, p.2.data ≠ .cell v
  hok : HOk X.prog X.w H s.heap
  len : σ.length = X.N.length
section
variable {X : Cx} {pins : List (Addr × Obj)} {σ : List (Option V)} {H H' : Hp} {s : Shared} {h' : Heap}
theorem Cx.Ok.nofr (ok : X.Ok) {b : Addr} {o : Obj} (e : X.base.get? b = some o) : b ∉ X.fs := fun hb => by
  have := (ok.funs.mem hb).1
  rw [e] at this; cases this
theorem Inv.bs (I : Inv X pins σ H s) : ∀ b o, X.base.get? b = some o → s.heap.get? b = some o ∧ H b = none := fun b o e =>
  ⟨I.base.keep b o (I.ok.bs b o e).1 (I.ok.bs b o e).2 (I.ok.nofr e) (I.ok.noex b o e), I.base.free b o (I.ok.bs b o e).1 (I.ok.bs b o e).2 (I.ok.noex b o e)⟩
theorem Inv.bk (I : Inv X pins σ H s) : ∀ b o, X.base.get? b = some o → s.heap.get? b = some o := fun b o e => (I.bs b o e).1
theorem Inv.mod (I : Inv X pins σ H s) : Mod X.K X.mg X.base := I.ok.mod
theorem Inv.kIn (I : Inv X pins σ H s) : X.K.In s.heap := I.ok.mod.kin.keeps I.bk
theorem Inv.nolimit (I : Inv X pins σ H s) : s.heap.NoLimit := I.ok.mod.nolimit.keeps I.bk
theorem Inv.lt (I : Inv X pins σ H s) : X.env.locals < s.heap.objs.size := let ⟨_, hn, _⟩ := I.loc; hn.lt
theorem Inv.sz (I : Inv X pins σ H s) : X.s₀.heap.objs.size ≤ s.heap.objs.size := Nat.le_trans I.ok.above (Nat.le_of_lt I.lt)
theorem Inv.nofs (I : Inv X pins σ H s) {a : Addr} (h : s.heap.objs.size ≤ a) : a ∉ X.fs := fun hb => by
  obtain ⟨_, o, ho, _⟩ := I.ok.funs.mem hb
  exact absurd (Nat.lt_of_lt_of_le (Heap.lt_size ho) (Nat.le_trans I.sz h)) (Nat.lt_irrefl _)
theorem Inv.cne (I : Inv X pins σ H s) : ∀ x c, X.env.cells.lookup x = some c → c ≠ X.env.locals := fun x c e z => by
  obtain ⟨v, o, ho, hd⟩ := I.cell x c e
  obtain ⟨m, ⟨o', es, ep, ho', hd', _⟩, _⟩ := I.loc
  rw [z, ho'] at ho; cases ho; rw [hd'] at hd; cases hd
theorem Inv.funs (I : Inv X pins σ H s) : s.heap.FunFrames X.base X.outer := by
  have all : ∀ (l : List Env), (∀ b ∈ frs l, b ∈ X.fs) → X.s₀.heap.FunFrames X.base l → s.heap.FunFrames X.base l := by
    intro l
    induction l with
    | nil => intro _ _; trivial
    | cons env r ih =>
      intro hs hl
      obtain ⟨hk, ⟨L, o, hf, hn, ho, hd⟩, hr⟩ := hl
      have hL : L ∈ X.fs := hs L (by unfold frs; rw [List.filterMap_cons, hf]; exact List.mem_cons_self)
      obtain ⟨sl, e⟩ := I.base.slot L o ho (I.ok.frf L hL) hL fun z => I.ok.exfs L z hL
      exact ⟨hk, ⟨L, _, hf, hn, e, hd⟩, ih (fun b hb => hs b (by unfold frs; rw [List.filterMap_cons, hf]; exact List.mem_cons_of_mem _ hb)) hr⟩
  exact all X.outer (fun _ hb => hb) I.ok.funs
/-- the frames that run, for a call -/
theorem Inv.stack (I : Inv X pins σ H s) : s.heap.FunFrames X.base X.stack := by
  rcases I.ok.stk with e | ⟨e, hf⟩
  · rw [e]; exact I.funs
  · rw [e]
    obtain ⟨m, hn, _⟩ := I.loc
    refine .cons (by rw [I.ok.kind]; decide) hf hn ?_ I.funs
    exact Heap.get?_none_of_le (Nat.le_trans I.ok.bsz I.ok.above)
theorem Inv.stkSub (I : Inv X pins σ H s) : ∀ b ∈ frs X.stack, b ∈ X.env.locals :: X.fs := fun b hb => by
  rcases I.ok.stk with e | ⟨e, hf⟩
  · rw [e] at hb; exact List.mem_cons_of_mem _ hb
  · rw [e] at hb
    unfold frs at hb
    rw [List.filterMap_cons, hf] at hb
    exact hb
theorem Inv.stkFree (I : Inv X pins σ H s) : ∀ b ∈ frs X.stack, H b = none := fun b hb => by
  rcases List.mem_cons.mp (I.stkSub b hb) with e | hb
  · rw [e]; exact I.free
  · obtain ⟨_, o, ho, _⟩ := I.ok.funs.mem hb
    exact I.base.free b o ho (I.ok.frf b hb) fun z => I.ok.exfs b z hb
/-- THE STEP: the untracked objects but the frame and the records at ch are kept (the callers' frames up to slots), the frame's map is kept, the new abstract heap is held -/
theorem Inv.step {g' : Array GenState} {t' : Nat} {d' : Drawn} {ch : List Addr} (I : Inv X pins σ H s)
    (hch : ∀ b ∈ ch, (b ∈ X.ex ∨ X.s₀.heap.objs.size ≤ b) ∧ b ≠ X.env.locals ∧ (∀ x c, X.env.cells.lookup x = some c → c ≠ b) ∧ ∀ p ∈ X.pn ++ pins, p.1 ≠ b)
    (keep : ∀ b o, b ≠ X.env.locals → b ∉ X.fs → b ∉ ch → s.heap.get? b = some o → H b = none → h'.get? b = some o)
    (slot : ∀ b o, b ≠ X.env.locals → b ∈ X.fs → b ∉ ch → s.heap.get? b = some o → H b = none → ∃ sl, h'.get? b = some { o with slots := sl }) (free : ∀ b o, b ∉ ch → s.heap.get? b = some o → H b = none → H' b = none)
    (there : ∀ b o, b ∉ ch → s.heap.get? b = some o → ∃ o', h'.get? b = some o')
    (tups : ∀ b xs, H b = some (.tup xs) → H' b = some (.tup xs)) (frzs : ∀ b o u, H b = some (.frz o u) → H' b = some (.frz o u)) (tbls : ∀ b ps, H b = some (.tbl ps) → ∃ more, H' b = some (.tbl (ps ++ more)))
    (ns : ∀ m, s.heap.Ns X.env.locals m → h'.Ns X.env.locals m) (hok : HOk X.prog X.w H' h') (hg : AllBare g') :
    Inv X pins σ H' { s with heap := h', gens := g', drawn := d', toks := t' } := by
  have neL : ∀ b o, X.s₀.heap.get? b = some o → b ≠ X.env.locals := fun b o e => Nat.ne_of_lt (Nat.lt_of_lt_of_le (Heap.lt_size e) I.ok.above)
  have neC : ∀ b o, X.s₀.heap.get? b = some o → b ∉ X.ex → b ∉ ch := fun b o e hx hb => by
    rcases (hch b hb).1 with z | z
    · exact hx z
    · exact absurd (Nat.lt_of_lt_of_le (Heap.lt_size e) z) (Nat.lt_irrefl _)
  have cellK : ∀ x c, X.env.cells.lookup x = some c → ∀ v, s.heap.IsCell c v → h'.IsCell c v := fun x c e v ⟨o, ho, hd⟩ => by
    have nch : c ∉ ch := fun z => (hch c z).2.2.1 x c e rfl
    by_cases hc : c ∈ X.fs
    · obtain ⟨sl, q⟩ := slot c o (I.cne x c e) hc nch ho (I.freeC x c e)
      exact ⟨_, q, hd⟩
    · exact ⟨o, keep c o (I.cne x c e) hc nch ho (I.freeC x c e), hd⟩
  refine ⟨I.ok, I.os, hg, ⟨fun b o e n hb hx => ?_, fun b o e n hb hx => ?_, fun b o e n hx => ?_, fun b o e hx => ?_, fun b xs e => tups b xs (I.base.tups b xs e), fun b o xs e => frzs b o xs (I.base.frzs b o xs e), fun b ps e => ?_⟩, ?_, fun x c e => ?_, ?_, fun x c e => ?_, fun p hp => ?_, hok, I.len⟩
  · exact keep b o (neL b o e) hb (neC b o e hx) (I.base.keep b o e n hb hx) (I.base.free b o e n hx)
  · obtain ⟨sl, e1⟩ := I.base.slot b o e n hb hx
    obtain ⟨sl', e2⟩ := slot b _ (neL b o e) hb (neC b o e hx) e1 (I.base.free b o e n hx)
    exact ⟨sl', e2⟩
  · obtain ⟨o', e1⟩ := I.base.there b o e hx
    exact free b o' (neC b o e hx) e1 (I.base.free b o e n hx)
  · obtain ⟨o', e1⟩ := I.base.there b o e hx
    exact there b o' (neC b o e hx) e1
  · obtain ⟨m1, e1⟩ := I.base.tbls b ps e
    obtain ⟨m2, e2⟩ := tbls b _ e1
    exact ⟨m1 ++ m2, by rw [e2, Array.append_assoc]⟩
  · obtain ⟨m, hn, hl⟩ := I.loc
    refine ⟨m, ns m hn, fun i x v e1 e2 e3 => ?_⟩
    obtain ⟨u, r, l⟩ := hl i x v e1 e2 e3
    refine ⟨u, r, ?_⟩
    rcases l with l | ⟨k, c, e, z⟩
    · exact .inl l
    · exact .inr ⟨k, c, e, cellK x c e _ z⟩
  · obtain ⟨v, z⟩ := I.cell x c e
    exact ⟨v, cellK x c e v z⟩
  · obtain ⟨m, ⟨o, _, _, ho, _⟩, _⟩ := I.loc
    exact free _ o (fun z => (hch _ z).2.1 rfl) ho I.free
  · obtain ⟨v, o, ho, hd⟩ := I.cell x c e
    exact free c o (fun z => (hch c z).2.2.1 x c e rfl) ho (I.freeC x c e)
  · obtain ⟨e, n, ne, nf, d⟩ := I.pin p hp
    have nch : p.1 ∉ ch := fun z => (hch p.1 z).2.2.2 p hp rfl
    exact ⟨keep p.1 p.2 ne nf nch e n, free p.1 p.2 nch e n, ne, nf, d⟩
/-- .. where the frame's own object is kept too -/
theorem Inv.un {t' : Nat} (I : Inv X pins σ H s) (u : Un X.fs [] H H' s.heap h') (hok : HOk X.prog X.w H' h') : Inv X pins σ H' { s with heap := h', toks := t' } := by
  obtain ⟨m, ⟨o, es, ep, ho, r⟩, _⟩ := id I.loc
  obtain ⟨sl, hL⟩ := u.any ho I.free (by simp)
  exact I.step (g' := s.gens) (d' := s.drawn) (ch := []) (fun _ z => nomatch z) (fun b o _ hb _ e n => u.keep b o e n hb (by simp)) (fun b o _ hb _ e n => u.slot b o e n hb (by simp)) (fun b o _ e n => u.free b o e n (by simp)) (fun b o _ e => u.there b o e (by simp)) u.tups u.frzs u.tbls (fun m' hm => by
    obtain ⟨o', es', ep', ho', r'⟩ := hm
    rw [ho] at ho'; cases ho'
    exact ⟨_, es', ep', hL, r'⟩) hok I.bare
/-- behind a call (or a comprehension's block): the slots of this frame may have changed too, the records at ch may have turned -/
theorem Inv.call {g' : Array GenState} {t' : Nat} {d' : Drawn} {ch : List Addr} (I : Inv X pins σ H s) (u : Un (frs X.stack) ch H H' s.heap h') (hok : HOk X.prog X.w H' h') (hg : AllBare g')
    (hch : ∀ b ∈ ch, (b ∈ X.ex ∨ X.s₀.heap.objs.size ≤ b) ∧ b ≠ X.env.locals ∧ (∀ x c, X.env.cells.lookup x = some c → c ≠ b) ∧ ∀ p ∈ X.pn ++ pins, p.1 ≠ b) :
    Inv X pins σ H' { s with heap := h', gens := g', drawn := d', toks := t' } := by
  obtain ⟨m, ⟨o, es, ep, ho, r⟩, _⟩ := id I.loc
  obtain ⟨sl, hL⟩ := u.any ho I.free fun z => (hch _ z).2.1 rfl
  exact I.step (ch := ch) hch (fun b o hL hb hc e n => u.keep b o e n (fun z => (List.mem_cons.mp (I.stkSub b z)).elim hL hb) hc) (fun b o _ _ hc e n => u.any e n hc) (fun b o hc e n => u.free b o e n hc) (fun b o hc e => u.there b o e hc) u.tups u.frzs u.tbls (fun m' hm => by
    obtain ⟨o', es', ep', ho', r'⟩ := hm
    rw [ho] at ho'; cases ho'
    exact ⟨_, es', ep', hL, r'⟩) hok hg
/-- an untracked record of ours (an iterator) has turned -/
theorem Inv.turned {t' : Nat} {it : Addr} (I : Inv X pins σ H s) (k : ∀ b o, b ≠ it → s.heap.get? b = some o → h'.get? b = some o) (hn : H it = none) (hL : it ≠ X.env.locals)
    (h1 : it ∈ X.ex ∨ X.s₀.heap.objs.size ≤ it) (h2 : ∀ x c, X.env.cells.lookup x = some c → c ≠ it) (h3 : ∀ p ∈ X.pn ++ pins, p.1 ≠ it) : Inv X pins σ H { s with heap := h', toks := t' } := by
  have nit : ∀ b u, H b = some u → b ≠ it := fun b u e z => by rw [z, hn] at e; cases e
  refine I.step (g' := s.gens) (d' := s.drawn) (ch := [it]) (fun b hb => ?_) (fun b o _ _ hc e _ => k b o (fun z => hc (by simp [z])) e) (fun b o _ _ hc e _ => ⟨o.slots, k b o (fun z => hc (by simp [z])) e⟩) (fun _ _ _ _ n => n)
    (fun b o hc e => ⟨o, k b o (fun z => hc (by simp [z])) e⟩) (fun _ _ e => e) (fun _ _ _ e => e) (fun b ps e => ⟨#[], by rw [e]; simp⟩) (fun m hm => ?_) (fun b u e => ?_) I.bare
  · have e : b = it := by simpa using hb
    subst e
    exact ⟨h1, hL, h2, h3⟩
  · obtain ⟨o, es, ep, ho, r⟩ := hm
    exact ⟨o, es, ep, k _ o (Ne.symm hL) ho, r⟩
  · refine (I.hok b u e).stay (fun c v hc q => k c v ?_ q) (fun _ q => q) fun _ _ q => q
    rcases hc with z | z
    · rw [z]; exact nit b u e
    · exact nit c _ z
theorem Inv.tok (I : Inv X pins σ H s) (t : Nat) : Inv X pins σ H { s with toks := t } := I.un (h' := s.heap) (t' := t) Un.refl I.hok
/-- all objects kept -/
theorem Inv.kept {t' : Nat} (I : Inv X pins σ H s) (k : ∀ b u, s.heap.get? b = some u → h'.get? b = some u) : Inv X pins σ H { s with heap := h', toks := t' } := I.un (Un.kept k) (I.hok.kept k)
/-- a new object laid and tracked -/
theorem Inv.laid {a : Addr} {o : HO} {t' : Nat} (I : Inv X pins σ H s) (k : ∀ b u, s.heap.get? b = some u → h'.get? b = some u) (hp : s.heap.objs.size ≤ a) (new : ObjOk X.prog X.w (upd H a o) h' a o) :
    Inv X pins σ (upd H a o) { s with heap := h', toks := t' } := I.un (Un.laid k hp (I.hok.fresh hp)) (I.hok.laid k hp new)
/-- an object written -/
theorem Inv.write {x e : Addr} {o : HO} {t' : Nat} (I : Inv X pins σ H s) (mu : Mut (H x)) (he : e = x ∨ H e = some (.own x)) (k : ∀ b u, b ≠ e → s.heap.get? b = some u → h'.get? b = some u) (heo : ∃ u, h'.get? e = some u)
    (new : ObjOk X.prog X.w (upd H x o) h' x o) : Inv X pins σ (upd H x o) { s with heap := h', toks := t' } := I.un (Un.write mu he k heo) (I.hok.write mu he k heo new)
/-- forgetting slots, pins -/
theorem Inv.weak {σ' : List (Option V)} (I : Inv X pins σ H s) (hl : σ'.length = σ.length) (w : ∀ (i : Nat) v, σ'[i]? = some (some v) → σ[i]? = some (some v)) : Inv X pins σ' H s :=
  ⟨I.ok, I.os, I.bare, I.base, let ⟨m, hn, hl'⟩ := I.loc; ⟨m, hn, fun i x v e1 e2 e3 => hl' i x v e1 (w i v e2) e3⟩, I.cell, I.free, I.freeC, I.pin, I.hok, hl.trans I.len⟩
theorem Inv.pins_of {pins' : List (Addr × Obj)} (I : Inv X pins σ H s) (h : ∀ p ∈ pins', s.heap.get? p.1 = some p.2 ∧ H p.1 = none ∧ p.1 ≠ X.env.locals ∧ p.1 ∉ X.fs ∧ ∀ v, p.2.data ≠ .cell v) : Inv X pins' σ H s :=
  ⟨I.ok, I.os, I.bare, I.base, I.loc, I.cell, I.free, I.freeC, fun p hp => (List.mem_append.mp hp).elim (fun z => I.pin p (List.mem_append_left _ z)) (h p), I.hok, I.len⟩
theorem nodup_ix {N : List Str} (hN : N.Nodup) {i j : Nat} {x : Str} (a : N[i]? = some x) (b : N[j]? = some x) : i = j := by
  obtain ⟨h1, e1⟩ := List.getElem?_eq_some_iff.mp a
  obtain ⟨h2, e2⟩ := List.getElem?_eq_some_iff.mp b
  exact (List.getElem_inj hN).mp (e1.trans e2.symm)
/-- a name is stored; what changed -/
theorem store_ok2 {M : Model} {A : Around} {E : Value → Shared → Prop} {i : Nat} {x : Str} {v : V} {u : Value} {Q : Unit → Shared → Prop} (I : Inv X pins σ H s) (hN : X.N.Nodup) (hi : X.N[i]? = some x) (hx : Loc X.env.scope x) (r : RelV v u)
    (h : ∀ s', Inv X pins (σ.set i (some v)) H s' → (∃ a, Heap.SameBut a s.heap s'.heap ∧ (a = X.env.locals ∨ X.env.cells.lookup x = some a)) → Q () s') (hf : X.fn x = true ∨ X.env.scope.names.lookup x = some .local := by first | exact .inl rfl | exact .inr rfl | assumption) : wpAny M A (storeName X.env x u) Q E s := by
  obtain ⟨m, hn, hl⟩ := id I.loc
  have hcls : (X.env.scope.kind == .class || (X.env.scope.kind == .module && X.env.locals != X.env.globals)) = false := by rw [I.ok.kind]; rfl
  have hiσ : i < σ.length := by rw [I.len]; exact (List.getElem?_eq_some_iff.mp hi).1
  have cne := I.cne
  have tracked : ∀ {a : Addr} {h' : Heap}, (∃ o, s.heap.get? a = some o ∧ H a = none) → Heap.SameBut a s.heap h' → HOk X.prog X.w H h' := fun {a h'} ha hs b ob e => by
    obtain ⟨_, _, hfree⟩ := ha
    refine (I.hok b ob e).stay (fun c w' hc q => (hs.2 c ?_).trans q) (fun _ q => q) fun _ _ q => q
    rintro rfl
    rcases hc with rfl | hc
    · rw [hfree] at e; cases e
    · rw [hfree] at hc; cases hc
  rcases hx with hk | hk
  · refine wpAny_storeName_local hk hn (fun h' hn' hs => ?_) hcls
    obtain ⟨oL, _, _, hoL, _⟩ := id hn
    refine h _ ⟨I.ok, I.os, I.bare, ⟨fun b o e n hb hx => ?_, fun b o e n hb hx => ?_, I.base.free, fun b o e hx => ?_, I.base.tups, I.base.frzs, I.base.tbls⟩, ⟨_, hn', fun j y v' e1 e2 e3 => ?_⟩, fun y c e => ?_, I.free, I.freeC, fun p hp => ?_, tracked ⟨oL, hoL, I.free⟩ hs, by simpa using I.len⟩ ⟨_, hs, .inl rfl⟩
    · exact (hs.2 b (Nat.ne_of_lt (Nat.lt_of_lt_of_le (Heap.lt_size e) I.ok.above))).trans (I.base.keep b o e n hb hx)
    · obtain ⟨sl, e1⟩ := I.base.slot b o e n hb hx
      exact ⟨sl, (hs.2 b (Nat.ne_of_lt (Nat.lt_of_lt_of_le (Heap.lt_size e) I.ok.above))).trans e1⟩
    · obtain ⟨o', e1⟩ := I.base.there b o e hx
      exact ⟨o', (hs.2 b (Nat.ne_of_lt (Nat.lt_of_lt_of_le (Heap.lt_size e) I.ok.above))).trans e1⟩
    · by_cases hj : j = i
      · subst hj
        rw [hi] at e1; cases e1
        rw [List.getElem?_set_self hiσ] at e2
        cases e2
        exact ⟨u, r, .inl ⟨hk, by simp⟩⟩
      · rw [List.getElem?_set_ne (Ne.symm hj)] at e2
        obtain ⟨u', r', q⟩ := hl j y v' e1 e2 e3
        refine ⟨u', r', ?_⟩
        rcases q with ⟨k, e⟩ | ⟨k, c, e, z⟩
        · refine .inl ⟨k, ?_⟩
          have : y ≠ x := fun e => hj (nodup_ix hN e1 (e ▸ hi))
          simp [this, e]
        · exact .inr ⟨k, c, e, z.sameBut hs (cne y c e)⟩
    · obtain ⟨w', z⟩ := I.cell y c e
      exact ⟨w', z.sameBut hs (cne y c e)⟩
    · obtain ⟨e, n, ne, nf, d⟩ := I.pin p hp
      exact ⟨(hs.2 p.1 ne).trans e, n, ne, nf, d⟩
  · have hfn : X.fn x = true := by
      rcases hf with z | z
      · exact z
      · rw [z] at hk; cases hk
    obtain ⟨c, hc⟩ := I.ok.has x (.inl hk)
    obtain ⟨w', z⟩ := I.cell x c hc
    refine wpAny_storeName_cell I.ok.kind hk hc z (fun h' hc' hs => ?_)
    obtain ⟨oc, hoc, hocd⟩ := id z
    refine h { s with heap := h' } ⟨I.ok, I.os, I.bare, ⟨fun b o e n hb hx => ?_, fun b o e n hb hx => ?_, I.base.free, fun b o e hx => ?_, I.base.tups, I.base.frzs, I.base.tbls⟩, ⟨m, hn.sameBut hs (Ne.symm (cne x c hc)), fun j y v' e1 e2 e3 => ?_⟩, fun y c' e => ?_, I.free, I.freeC, fun p hp => ?_, tracked ⟨oc, hoc, I.freeC x c hc⟩ hs, by simpa using I.len⟩ ⟨c, hs, .inr hc⟩
    · exact (hs.2 b (Nat.ne_of_lt (Nat.lt_of_lt_of_le (Heap.lt_size e) (I.ok.cab x c hfn hc)))).trans (I.base.keep b o e n hb hx)
    · obtain ⟨sl, e1⟩ := I.base.slot b o e n hb hx
      exact ⟨sl, (hs.2 b (Nat.ne_of_lt (Nat.lt_of_lt_of_le (Heap.lt_size e) (I.ok.cab x c hfn hc)))).trans e1⟩
    · obtain ⟨o', e1⟩ := I.base.there b o e hx
      exact ⟨o', (hs.2 b (Nat.ne_of_lt (Nat.lt_of_lt_of_le (Heap.lt_size e) (I.ok.cab x c hfn hc)))).trans e1⟩
    · by_cases hj : j = i
      · subst hj
        rw [hi] at e1; cases e1
        rw [List.getElem?_set_self hiσ] at e2
        cases e2
        exact ⟨u, r, .inr ⟨.inl hk, c, hc, hc'⟩⟩
      · rw [List.getElem?_set_ne (Ne.symm hj)] at e2
        obtain ⟨u', r', q⟩ := hl j y v' e1 e2 e3
        refine ⟨u', r', ?_⟩
        rcases q with q | ⟨k, c', e, z'⟩
        · exact .inl q
        · refine .inr ⟨k, c', e, z'.sameBut hs ?_⟩
          rintro rfl
          exact hj (nodup_ix hN e1 (I.ok.inj _ _ _ e hc ▸ hi))
    · by_cases hcc : c' = c
      · subst hcc; exact ⟨_, hc'⟩
      · obtain ⟨w2, z2⟩ := I.cell y c' e
        exact ⟨w2, z2.sameBut hs hcc⟩
    · obtain ⟨e, n, ne, nf, d⟩ := I.pin p hp
      refine ⟨(hs.2 p.1 ?_).trans e, n, ne, nf, d⟩
      intro q
      rw [q, hoc] at e
      have q' : oc = p.2 := Option.some.inj e
      exact d w' (by rw [← q']; exact hocd)
theorem store_ok {M : Model} {A : Around} {E : Value → Shared → Prop} {i : Nat} {x : Str} {v : V} {u : Value} {Q : Unit → Shared → Prop} (I : Inv X pins σ H s) (hN : X.N.Nodup) (hi : X.N[i]? = some x) (hx : Loc X.env.scope x) (r : RelV v u)
    (h : ∀ s', Inv X pins (σ.set i (some v)) H s' → Q () s') (hf : X.fn x = true ∨ X.env.scope.names.lookup x = some .local := by first | exact .inl rfl | exact .inr rfl | assumption) : wpAny M A (storeName X.env x u) Q E s :=
  store_ok2 I hN hi hx r (fun s' I' _ => h s' I') hf
end
/-! ### the judgements -/
/-- an exception: its class, its own dict's address (where it has one), the abstract heap behind it -/
abbrev XK := Value → Option Addr → Hp → Prop
abbrev St := List (Option V)
abbrev VK := V → Hp → Prop
/-- an expression's reading; a test's; an argument list's -/
abbrev TE := St → Hp → VK → Prop
abbrev TT := St → Hp → (Bool → Hp → Prop) → Prop
abbrev TA := St → Hp → (List V → Hp → Prop) → Prop
/-- what is wanted behind a statement -/
structure Ends where
  nx : St → Hp → Prop
  rt : VK
  bk : St → Hp → Prop := fun _ _ => False
  ct : St → Hp → Prop := fun _ _ => False
abbrev TS := Ends → St → Hp → Prop
def EP (X : Cx) (pins : List (Addr × Obj)) (σ : St) (Q : VK) (u : Value) (s' : Shared) : Prop := ∃ v H', Inv X pins σ H' s' ∧ RelV v u ∧ Q v H'
def TP (X : Cx) (pins : List (Addr × Obj)) (σ : St) (Q : Bool → Hp → Prop) (b : Bool) (s' : Shared) : Prop := ∃ H', Inv X pins σ H' s' ∧ Q b H'
def AP (X : Cx) (pins : List (Addr × Obj)) (σ : St) (Q : List V → Hp → Prop) (us : List Value) (s' : Shared) : Prop := ∃ vs H', Inv X pins σ H' s' ∧ Vals vs us ∧ Q vs H'
def SP (X : Cx) (pins : List (Addr × Obj)) (D : Ends) (f : Flow) (s' : Shared) : Prop :=
  match f with
  | .next => ∃ σ' H', Inv X pins σ' H' s' ∧ D.nx σ' H'
  | .brk => ∃ σ' H', Inv X pins σ' H' s' ∧ D.bk σ' H'
  | .cont => ∃ σ' H', Inv X pins σ' H' s' ∧ D.ct σ' H'
  | .ret u => ∃ v σ' H', Inv X pins σ' H' s' ∧ RelV v u ∧ D.rt v H'
def PE (X : Cx) (e : Expr) (t : TE) : Prop :=
  ∀ (pins : List (Addr × Obj)) (s : Shared) (σ : St) (H : Hp) (Q : VK), Inv X pins σ H s → t σ H Q → wpAny (model X.prog X.w) X.A (eval e X.env) (EP X pins σ Q) X.xe s
def PT (X : Cx) (e : Expr) (t : TT) : Prop :=
  ∀ (pins : List (Addr × Obj)) (s : Shared) (σ : St) (H : Hp) (Q : Bool → Hp → Prop), Inv X pins σ H s → t σ H Q → wpAny (model X.prog X.w) X.A (isTrue e X.env (eval e X.env)) (TP X pins σ Q) X.xe s
/-- a test whatever its 'whole' is (and, or) -/
def PW (X : Cx) (e : Expr) (t : TT) : Prop :=
  ∀ (whole : Sem Value) (pins : List (Addr × Obj)) (s : Shared) (σ : St) (H : Hp) (Q : Bool → Hp → Prop), Inv X pins σ H s → t σ H Q → wpAny (model X.prog X.w) X.A (isTrue e X.env whole) (TP X pins σ Q) X.xe s
theorem PW.pt {X : Cx} {e : Expr} {t : TT} (h : PW X e t) : PT X e t := h _
/-- an argument list (no star), from the left -/
def PA (X : Cx) (es : List Expr) (t : TA) : Prop :=
  ∀ (pos : Pos) (pins : List (Addr × Obj)) (s : Shared) (σ : St) (H : Hp) (Q : List V → Hp → Prop), Inv X pins σ H s → t σ H Q → wpAny (model X.prog X.w) X.A (spliced (backTo pos (starEach es X.env))) (AP X pins σ Q) X.xe s
def PS (X : Cx) (st : Stmt) (t : TS) : Prop :=
  ∀ (pins : List (Addr × Obj)) (s : Shared) (σ : St) (H : Hp) (D : Ends), Inv X pins σ H s → t D σ H → wpAny (model X.prog X.w) X.A (exec st X.env) (SP X pins D) X.xe s
def PSs (X : Cx) (st : List Stmt) (t : TS) : Prop :=
  ∀ (pins : List (Addr × Obj)) (s : Shared) (σ : St) (H : Hp) (D : Ends), Inv X pins σ H s → t D σ H → wpAny (model X.prog X.w) X.A (execs st X.env) (SP X pins D) X.xe s
/-- weaken the end -/
theorem thn {α : Type} {t : Sem α} {Q Q' : α → Shared → Prop} {M : Model} {A : Around} {E : Value → Shared → Prop} {s : Shared} (h : wpAny M A t Q E s) (hQ : ∀ a s, Q a s → Q' a s) : wpAny M A t Q' E s := wpAny_mono h hQ fun _ _ x => x
end L2
namespace L2
open PySem PySem.Spec PyProof.Rows
section
variable {X : Cx}
/-! ### names and constants -/
def tVar (i : Nat) : TE := fun σ H Q => ∃ v, σ[i]? = some (some v) ∧ Q v H
def tC (v : V) : TE := fun _ H Q => Q v H
theorem pe_var {i : Nat} {x : Str} {pos : Pos} (hN : X.N[i]? = some x) (hv : Vis X.env.scope x) (hd : (x == ("__debug__" : Str)) = false := by decide) (hcd : (x == ("__classdict__" : Str)) = false := by decide) : PE X (.Name x pos) (tVar i) := by
  intro pins s σ H Q I h
  obtain ⟨v, e, h⟩ := h
  obtain ⟨m, hn, hl⟩ := I.loc
  obtain ⟨u, r, l⟩ := hl i x v hN e hv
  have fin : EP X pins σ Q u s := ⟨v, H, I, r, h⟩
  rcases l with ⟨hk, hm⟩ | ⟨hk, c, hc, hcell⟩
  · exact wpAny_Name (wpAny_loadName_local I.ok.kind hk hn hm fin) hd
  · rcases hk with hk | hk
    · exact wpAny_Name (wpAny_loadName_cell I.ok.kind hk hc hcell fin) hd
    · exact wpAny_Name (wpAny_loadName_free I.ok.kind hk hc hcell fin hcd) hd
theorem pe_int {i j pos} : PE X (.Constant (.int i) j pos) (tC (.int i)) := fun _ _ _ H _ I h => wpAny_Constant_int ⟨.int i, H, I.tok _, ⟨_, rfl⟩, h⟩
theorem pe_bl {b j pos} : PE X (.Constant (.bool b) j pos) (tC (.bl b)) := fun _ _ _ H _ I h => Constant_bool ⟨.bl b, H, I, rfl, h⟩
theorem pe_str {x j pos} : PE X (.Constant (.str x) j pos) (tC (.str x)) := fun _ _ _ H _ I h => Calls.Constant_str ⟨.str x, H, I.tok _, ⟨_, rfl⟩, h⟩
/-- a global name of the def -/
def Gl (X : Cx) (x : Str) : Prop := X.env.kindOf x = some .globalImplicit
theorem ld_glob {E : Value → Shared → Prop} {pins : List (Addr × Obj)} {s : Shared} {σ : St} {H : Hp} {x : Str} {u : Value} {pos : Pos} {Q : Value → Shared → Prop} (I : Inv X pins σ H s) (hg : Gl X x) (hm : X.mg x = some u) (h : Q u s)
    (hd : (x == ("__debug__" : Str)) = false := by decide) : wpAny (model X.prog X.w) X.A (eval (.Name x pos) X.env) Q E s :=
  Calls.Name_function_global I.ok.kind hg (Calls.loadGlobal_global (by rw [I.ok.glob]; exact I.mod.glob.keeps I.bk) hm h) hd
theorem ld_blt {E : Value → Shared → Prop} {pins : List (Addr × Obj)} {s : Shared} {σ : St} {H : Hp} {x : Str} {u : Value} {pos : Pos} {Q : Value → Shared → Prop} (I : Inv X pins σ H s) (hg : Gl X x) (hm : X.mg x = none) (hv : bootBuiltins x = some u) (h : Q u s)
    (hn : x ≠ "__name__" := by decide) (hd : (x == ("__debug__" : Str)) = false := by decide) : wpAny (model X.prog X.w) X.A (eval (.Name x pos) X.env) Q E s := by
  obtain ⟨mb, h1, h2⟩ := I.mod.blt
  exact Calls.Name_function_global I.ok.kind hg (Calls.loadGlobal_builtin (by rw [I.ok.glob]; exact I.mod.glob.keeps I.bk) hm (by rw [I.ok.blt]; exact h1.keeps I.bk) ((h2 x hn).trans hv) h) hd
/-- a module's constant, a class, a function, as a value -/
theorem pe_glob {x : Str} {v : V} {u : Value} {pos : Pos} (hg : Gl X x) (hm : X.mg x = some u) (r : RelV v u) (hd : (x == ("__debug__" : Str)) = false := by decide) : PE X (.Name x pos) (tC v) :=
  fun _ _ _ H _ I h => ld_glob I hg hm ⟨v, H, I, r, h⟩ hd
theorem pe_bltn {x : Str} {v : V} {u : Value} {pos : Pos} (hg : Gl X x) (hm : X.mg x = none) (hv : bootBuiltins x = some u) (r : RelV v u) (hn : x ≠ "__name__" := by decide) (hd : (x == ("__debug__" : Str)) = false := by decide) : PE X (.Name x pos) (tC v) :=
  fun _ _ _ H _ I h => ld_blt I hg hm hv ⟨v, H, I, r, h⟩ hn hd
variable {a b : Expr} {ta tb : TE} {pos : Pos}
/-- a comparison as a value, as a test -/
def tB (t : TE) : TT := fun σ H Q => t σ H fun x H1 => ∃ c, x = .bl c ∧ Q c H1
/-- an expression whose value is a bool, as a test -/
theorem pt_val {e : Expr} {t : TE} (h : PE X e t) (he : ∀ whole, isTrue e X.env whole = (do let v ← whole; standAt e.pos; holding [v] (truthy v)) := by intro _; rfl) : PT X e (tB t) := by
  intro pins s σ H Q I hw
  refine isTrue_plain (thn (h pins s σ H _ I hw) fun v s1 ⟨x, H1, I1, r1, q1⟩ => ?_) (he _)
  obtain ⟨d, rfl, q⟩ := q1
  cases r1
  exact wpAny_truthy_bool ⟨H1, I1, q⟩
/-! ### and, or, not -/
variable {tA tB' : TT} {rest : List Expr}
def tOr (t u : TT) : TT := fun σ H Q => t σ H fun c H1 => if c = true then Q true H1 else u σ H1 Q
def tNot (t : TT) : TT := fun σ H Q => t σ H fun c H1 => Q (!c) H1
theorem pw_or1 (ha : PT X a tA) : PW X (.BoolOp .Or [a] pos) tA := by
  intro wh pins s σ H Q I h
  refine isTrue_or (thn (ha pins s σ H Q I h) fun c s1 e => ?_)
  cases c with
  | false => exact isTrue_or_nil e
  | true => exact e
theorem pw_or (ha : PT X a tA) (hb : PW X (.BoolOp .Or (b :: rest) pos) tB') : PW X (.BoolOp .Or (a :: b :: rest) pos) (tOr tA tB') := by
  intro wh pins s σ H Q I h
  refine isTrue_or (thn (ha pins s σ H _ I h) fun c s1 ⟨H1, I1, q1⟩ => ?_)
  cases c with
  | true => exact ⟨H1, I1, q1⟩
  | false => exact hb wh pins s1 σ H1 Q I1 q1
theorem pt_not (ha : PT X a tA) : PT X (.UnaryOp .Not a pos) (tNot tA) := by
  intro pins s σ H Q I h
  exact isTrue_not (ha pins s σ H (fun c H1 => Q (!c) H1) I h)
/-- .. as values (bools) -/
def tAndV (ta tb : TE) : TE := fun σ H Q => ta σ H fun x H1 => ∃ c, x = .bl c ∧ if c = true then tb σ H1 Q else Q (.bl false) H1
def tOrV (ta tb : TE) : TE := fun σ H Q => ta σ H fun x H1 => ∃ c, x = .bl c ∧ if c = true then Q (.bl true) H1 else tb σ H1 Q
def tNotV (ta : TE) : TE := fun σ H Q => ta σ H fun x H1 => ∃ c, x = .bl c ∧ Q (.bl (!c)) H1
theorem pe_one {op} {t : TE} (h : PE X a t) : PE X (.BoolOp op [a] pos) t := fun pins s σ H Q I hw => BoolOp_one (h pins s σ H Q I hw)
theorem pe_and (ha : PE X a ta) (hb : PE X (.BoolOp .And (b :: rest) pos) tb) : PE X (.BoolOp .And (a :: b :: rest) pos) (tAndV ta tb) := by
  intro pins s σ H Q I h
  refine BoolOp_and (thn (ha pins s σ H _ I h) fun v s1 ⟨x, H1, I1, r1, q1⟩ => ?_)
  obtain ⟨c, rfl, q1⟩ := q1
  cases r1
  refine wpAny_truthy_bool ?_
  cases c with
  | true => exact hb pins s1 σ H1 Q I1 q1
  | false => exact ⟨.bl false, H1, I1, rfl, q1⟩
theorem pe_or (ha : PE X a ta) (hb : PE X (.BoolOp .Or (b :: rest) pos) tb) : PE X (.BoolOp .Or (a :: b :: rest) pos) (tOrV ta tb) := by
  intro pins s σ H Q I h
  refine BoolOp_or (thn (ha pins s σ H _ I h) fun v s1 ⟨x, H1, I1, r1, q1⟩ => ?_)
  obtain ⟨c, rfl, q1⟩ := q1
  cases r1
  refine wpAny_truthy_bool ?_
  cases c with
  | false => exact hb pins s1 σ H1 Q I1 q1
  | true => exact ⟨.bl true, H1, I1, rfl, q1⟩
theorem pe_not (ha : PE X a ta) : PE X (.UnaryOp .Not a pos) (tNotV ta) := by
  intro pins s σ H Q I h
  refine UnaryOp_ (thn (ha pins s σ H _ I h) fun v s1 ⟨x, H1, I1, r1, q1⟩ => ?_)
  obtain ⟨c, rfl, q1⟩ := q1
  cases r1
  exact not_of (wpAny_truthy_bool ⟨.bl (!c), H1, I1, rfl, q1⟩)
/-- a if t else b -/
def tIf (t : TT) (ta tb : TE) : TE := fun σ H Q => t σ H fun c H1 => if c = true then ta σ H1 Q else tb σ H1 Q
theorem pe_ifExp {c : Expr} (hc : PT X c tA) (ha : PE X a ta) (hb : PE X b tb) : PE X (.IfExp c a b pos) (tIf tA ta tb) := by
  intro pins s σ H Q I h
  refine wpAny_IfExp (thn (hc pins s σ H _ I h) fun d s1 ⟨H1, I1, q1⟩ => ?_)
  cases d with
  | true => exact ha pins s1 σ H1 Q I1 q1
  | false => exact hb pins s1 σ H1 Q I1 q1
end
end L2
namespace L2
open PySem PySem.Spec PyProof.Rows
/-! ### a list, a tuple that is read: tracked, frozen, or an object of the module -/
def SqL (K : PySem.W.Frag) (H : Hp) (a : Addr) (xs : List V) : Prop :=
  Rd H a (.lst xs) ∨
    ∃ (o : Obj) (its : Array Value) (n : Nat), K.lookup a = some o ∧ o.cls = .type "list" ∧ o.dict = none ∧ o.data = .seq its n ∧ its.size ≤ sizeLine ∧ Vals xs its.toList
def SqT (K : PySem.W.Frag) (H : Hp) (a : Addr) (xs : List V) : Prop :=
  Rd H a (.tup xs) ∨
    ∃ (o : Obj) (its : Array Value) (n : Nat), K.lookup a = some o ∧ o.cls = .type "tuple" ∧ o.data = .seq its n ∧ its.size ≤ sizeLine ∧ Vals xs its.toList
def absV : Value → Option V
  | .none => some .non
  | .bool b => some (.bl b)
  | .int i _ => some (.int i)
  | .str x _ => some (.str x)
  | .bytes b _ => some (.byt b)
  | .float b _ => some (.flt b)
  | .ref a => some (.ref a)
  | .type n => some (.ty n)
  | _ => none
theorem RelV.abs {x : V} {u : Value} (r : RelV x u) : absV u = some x := by
  cases x with
  | non => cases r; rfl
  | bl _ => cases r; rfl
  | int _ => obtain ⟨t, rfl⟩ := r; rfl
  | str _ => obtain ⟨t, rfl⟩ := r; rfl
  | byt _ => obtain ⟨t, rfl⟩ := r; rfl
  | flt _ => obtain ⟨t, rfl⟩ := r; rfl
  | ref _ => cases r; rfl
  | ty _ => cases r; rfl
theorem RelV.inj {x y : V} {u : Value} (r : RelV x u) (q : RelV y u) : x = y := Option.some.inj (r.abs.symm.trans q.abs)
theorem Vals.inj : ∀ {xs ys : List V} {us : List Value}, Vals xs us → Vals ys us → xs = ys
  | _, _, _, .nil, .nil => rfl
  | _, _, _, .cons r t, .cons r' t' => by rw [r.inj r', Vals.inj t t']
section
variable {X : Cx} {pins : List (Addr × Obj)} {σ : St} {H : Hp} {s : Shared} {a : Addr} {xs ys : List V}
theorem SqL.of {K : PySem.W.Frag} (h : H a = some (.lst xs)) : SqL K H a xs := .inl (.inl h)
theorem SqT.of {K : PySem.W.Frag} (h : H a = some (.tup xs)) : SqT K H a xs := .inl (.inl h)
theorem Inv.list (I : Inv X pins σ H s) (h : SqL X.K H a xs) : ∃ its : List Value, Vals xs its ∧ PlainL s.heap a its.toArray ∧ xs.length ≤ sizeLine := by
  rcases h with h | ⟨o, its, n, hk, hc, hd, hs, hz, r⟩
  · obtain ⟨z, its, n, r, e⟩ := h.ok I.hok
    exact ⟨its, r, ⟨_, n, e, rfl, rfl, rfl⟩, z⟩
  · refine ⟨its.toList, r, ⟨o, n, I.kIn a o hk, hc, hd, by simpa using hs⟩, ?_⟩
    have e := r.length
    simp only [Array.length_toList] at e
    omega
theorem Inv.tuple (I : Inv X pins σ H s) (h : SqT X.K H a xs) : ∃ its : List Value, Vals xs its ∧ IsTup s.heap a its.toArray ∧ xs.length ≤ sizeLine := by
  rcases h with h | ⟨o, its, n, hk, hc, hs, hz, r⟩
  · obtain ⟨z, its, r, p⟩ := h.ok I.hok
    exact ⟨its, r, p, z⟩
  · refine ⟨its.toList, r, ⟨o, I.kIn a o hk, hc, n, by simpa using hs⟩, ?_⟩
    have e := r.length
    simp only [Array.length_toList] at e
    omega
theorem Inv.list_inj (I : Inv X pins σ H s) (h : SqL X.K H a xs) (h' : SqL X.K H a ys) : xs = ys := by
  obtain ⟨its, r, ⟨o, n, e, _, _, d⟩, _⟩ := I.list h
  obtain ⟨its', r', ⟨o', n', e', _, _, d'⟩, _⟩ := I.list h'
  rw [e] at e'; cases e'
  rw [d] at d'
  injection d' with d1 _
  have : its = its' := by simpa using congrArg Array.toList d1
  subst this
  exact r.inj r'
theorem Inv.tuple_inj (I : Inv X pins σ H s) (h : SqT X.K H a xs) (h' : SqT X.K H a ys) : xs = ys := by
  obtain ⟨its, r, ⟨o, e, _, n, d⟩, _⟩ := I.tuple h
  obtain ⟨its', r', ⟨o', e', _, n', d'⟩, _⟩ := I.tuple h'
  rw [e] at e'; cases e'
  rw [d] at d'
  injection d' with d1 _
  have : its = its' := by simpa using congrArg Array.toList d1
  subst this
  exact r.inj r'
end
/-! ### another wish about exceptions -/
abbrev Cx.wish (X : Cx) (E : Value → Shared → Prop) : Cx := { X with xe := E }
/-- no exception leaves -/
abbrev Cx.nox (X : Cx) : Cx := X.wish fun _ _ => False
theorem Cx.Ok.wish {X : Cx} (ok : X.Ok) (E : Value → Shared → Prop) : (X.wish E).Ok :=
  ⟨ok.mod, ok.kind, ok.glob, ok.blt, ok.above, ok.inj, ok.has, ok.cab, ok.hd, ok.frames, ok.stk, ok.exf, ok.bs, ok.bsz, ok.noex, ok.exfs, ok.funs, ok.frf⟩
theorem Cx.Ok.unwish {X : Cx} {E : Value → Shared → Prop} (ok : (X.wish E).Ok) : X.Ok :=
  ⟨ok.mod, ok.kind, ok.glob, ok.blt, ok.above, ok.inj, ok.has, ok.cab, ok.hd, ok.frames, ok.stk, ok.exf, ok.bs, ok.bsz, ok.noex, ok.exfs, ok.funs, ok.frf⟩
section
variable {X : Cx} {pins : List (Addr × Obj)} {σ : St} {H : Hp} {s : Shared} {E : Value → Shared → Prop}
theorem Inv.wish (I : Inv X pins σ H s) (E : Value → Shared → Prop) : Inv (X.wish E) pins σ H s := ⟨I.ok.wish E, I.os, I.bare, I.base, I.loc, I.cell, I.free, I.freeC, I.pin, I.hok, I.len⟩
theorem Inv.unwish (I : Inv (X.wish E) pins σ H s) : Inv X pins σ H s := ⟨I.ok.unwish, I.os, I.bare, I.base, I.loc, I.cell, I.free, I.freeC, I.pin, I.hok, I.len⟩
theorem SP.unwish {D : Ends} {f : Flow} {s' : Shared} (h : SP (X.wish E) pins D f s') : SP X pins D f s' := by
  cases f with
  | next => obtain ⟨σ', H', I, q⟩ := h; exact ⟨σ', H', I.unwish, q⟩
  | brk => obtain ⟨σ', H', I, q⟩ := h; exact ⟨σ', H', I.unwish, q⟩
  | cont => obtain ⟨σ', H', I, q⟩ := h; exact ⟨σ', H', I.unwish, q⟩
  | ret u => obtain ⟨v, σ', H', I, r, q⟩ := h; exact ⟨v, σ', H', I.unwish, r, q⟩
theorem PE.nox {e : Expr} {t : TE} (h : PE X.nox e t) : PE X e t := fun pins s σ H Q I hw =>
  wpAny_mono (h pins s σ H Q (I.wish _) hw) (fun _ _ ⟨v, H', I', r, q⟩ => ⟨v, H', I'.unwish, r, q⟩) fun _ _ z => False.elim z
theorem PT.nox {e : Expr} {t : TT} (h : PT X.nox e t) : PT X e t := fun pins s σ H Q I hw =>
  wpAny_mono (h pins s σ H Q (I.wish _) hw) (fun _ _ ⟨H', I', q⟩ => ⟨H', I'.unwish, q⟩) fun _ _ z => False.elim z
theorem PSs.nox {st : List Stmt} {t : TS} (h : PSs X.nox st t) : PSs X st t := fun pins s σ H D I hw =>
  wpAny_mono (h pins s σ H D (I.wish _) hw) (fun _ _ q => q.unwish) fun _ _ z => False.elim z
end
/-! ### blocks and small statements -/
section
variable {X : Cx} {st : Stmt} {rest : List Stmt} {t u : TS} {e : Expr} {te : TE} {pos : Pos}
def tNext : TS := fun D σ H => D.nx σ H
def tSeq (t u : TS) : TS := fun D σ H => t { D with nx := u D } σ H
theorem pss_nil : PSs X [] tNext := fun _ _ σ H _ I h => wpAny_execs_nil ⟨σ, H, I, h⟩
theorem pss_cons (h1 : PS X st t) (h2 : PSs X rest u) : PSs X (st :: rest) (tSeq t u) := by
  intro pins s σ H D I h
  refine wpAny_execs_cons (thn (h1 pins s σ H { D with nx := u D } I h) fun f s1 q => ?_)
  cases f with
  | next =>
    obtain ⟨σ', H', I', q⟩ := q
    exact h2 pins s1 σ' H' D I' q
  | ret v => exact q
  | brk => exact q
  | cont => exact q
theorem pss_one (h1 : PS X st t) : PSs X [st] t := by
  intro pins s σ H D I h
  refine wpAny_execs_cons (thn (h1 pins s σ H D I h) fun f s1 q => ?_)
  cases f with
  | next => exact wpAny_execs_nil q
  | ret v => exact q
  | brk => exact q
  | cont => exact q
/-- in a def's body nothing is shown -/
theorem Inv.quiet {pins : List (Addr × Obj)} {σ : St} {H : Hp} {s : Shared} (I : Inv X pins σ H s) : interactive X.env = false := by simp [interactive, I.ok.kind]
/-- an expression whose value is dropped -/
def tDrop (te : TE) : TS := fun D σ H => te σ H fun _ H1 => D.nx σ H1
theorem ps_expr (he : PE X e te) (hs : swapsWith e none pos.line X.env = pure false := by rfl) : PS X (.Expr e pos) (tDrop te) := by
  intro pins s σ H D I h
  exact wpAny_Expr_any (thn (he pins s σ H _ I h) fun v s1 ⟨x, H1, I1, r1, q1⟩ => ⟨σ, H1, I1, q1⟩) I.quiet hs
def tRet (te : TE) : TS := fun D σ H => te σ H D.rt
theorem ps_ret (he : PE X e te) : PS X (.Return (some e) pos) (tRet te) := by
  intro pins s σ H D I h
  exact wpAny_Return_some (thn (he pins s σ H _ I h) fun v s1 ⟨x, H1, I1, r1, q1⟩ => ⟨x, σ, H1, I1, r1, q1⟩)
def tIfS (c : TT) (t u : TS) : TS := fun D σ H => c σ H fun b H1 => if b = true then t D σ H1 else u D σ H1
theorem ps_if {c : Expr} {a b : List Stmt} {tc : TT} (hc : PT X c tc) (ha : PSs X a t) (hb : PSs X b u) : PS X (.If c a b pos) (tIfS tc t u) := by
  intro pins s σ H D I h
  refine wpAny_If (thn (hc pins s σ H _ I h) fun d s1 ⟨H1, I1, q1⟩ => ?_)
  cases d with
  | true => exact ha pins s1 σ H1 D I1 q1
  | false => exact hb pins s1 σ H1 D I1 q1
end
/-! ### targets -/
abbrev TG := V → St → Hp → (St → Hp → Prop) → Prop
abbrev TGs := List V → St → Hp → (St → Hp → Prop) → Prop
def PG (X : Cx) (target : Expr) (t : TG) : Prop :=
  ∀ (pins : List (Addr × Obj)) (s : Shared) (σ : St) (H : Hp) (v : V) (u : Value) (Q : St → Hp → Prop), Inv X pins σ H s → RelV v u → t v σ H Q →
    wpAny (model X.prog X.w) X.A (assign target X.env u) (fun _ s' => ∃ σ' H', Inv X pins σ' H' s' ∧ Q σ' H') X.xe s
/-- several targets, one after another -/
def PGs (X : Cx) (ts : List Expr) (t : TGs) : Prop :=
  ∀ (pins : List (Addr × Obj)) (s : Shared) (σ : St) (H : Hp) (vs : List V) (us : List Value) (Q : St → Hp → Prop), Inv X pins σ H s → Vals vs us → t vs σ H Q →
    wpAny (model X.prog X.w) X.A (assignInOrder ((assignEach ts X.env).map (·.2)) us) (fun _ s' => ∃ σ' H', Inv X pins σ' H' s' ∧ Q σ' H') X.xe s
section
variable {X : Cx} {pos : Pos}
def gName (i : Nat) : TG := fun v σ H Q => Q (σ.set i (some v)) H
theorem pg_name {i : Nat} {x : Str} (hN : X.N.Nodup) (hi : X.N[i]? = some x) (hx : Loc X.env.scope x) (hf : X.fn x = true ∨ X.env.scope.names.lookup x = some .local := by first | exact .inl rfl | exact .inr rfl | assumption) : PG X (.Name x pos) (gName i) := by
  intro pins s σ H v u Q I r h
  exact wpAny_assign_Name (store_ok I hN hi hx r (fun s' I' => ⟨_, H, I', h⟩) hf)
def gNil : TGs := fun vs σ H Q => vs = [] ∧ Q σ H
def gCons (t : TG) (u : TGs) : TGs := fun vs σ H Q => ∃ v r, vs = v :: r ∧ t v σ H fun σ' H' => u r σ' H' Q
theorem pgs_nil : PGs X [] gNil := by
  intro pins s σ H vs us Q I r h
  obtain ⟨e, h⟩ := h
  subst e
  cases r
  exact assignInOrder_nil ⟨σ, H, I, h⟩
theorem pgs_cons {e : Expr} {es : List Expr} {t : TG} {u : TGs} (h1 : PG X e t) (h2 : PGs X es u)
    (hs : (assignEach (e :: es) X.env).map (·.2) = assign e X.env :: (assignEach es X.env).map (·.2) := by rfl) : PGs X (e :: es) (gCons t u) := by
  intro pins s σ H vs us Q I r h
  obtain ⟨v, vr, e1, h⟩ := h
  subst e1
  cases r with
  | cons r rr =>
    rw [hs]
    refine assignInOrder_cons (thn (h1 pins s σ H _ _ _ I r h) fun _ s1 ⟨σ1, H1, I1, q1⟩ => ?_)
    exact h2 pins s1 σ1 H1 _ _ Q I1 rr q1
/-- (a, b, ..) = a tuple of that length -/
def gTup (K : PySem.W.Frag) (n : Nat) (t : TGs) : TG := fun v σ H Q => ∃ a xs, v = .ref a ∧ SqT K H a xs ∧ xs.length = n ∧ t xs σ H Q
theorem pg_tup {es : List Expr} {k : Nat} {t : TGs} {n : Nat} (hc : X.calm = true) (h : PGs X es t)
    (hn : (assignEach es X.env).length = n := by rfl) (hst : (assignEach es X.env).findIdx? (·.1) = none := by rfl) : PG X (.Tuple es k pos) (gTup X.K n t) := by
  intro pins s σ H v u Q I r hw
  obtain ⟨a, xs, e1, hq, hl, hw⟩ := hw
  subst e1
  cases r
  obtain ⟨its, rv, ht, hz⟩ := I.tuple hq
  refine assign_Tuple_tuple (I.ok.hd hc) ht (by simp [hn, ← hl, rv.length]) hst fun h' hx => ?_
  have I1 : Inv X pins σ H { s with heap := h' } := I.kept (t' := s.toks) fun b o e => hx b o (Nat.ne_of_lt (Heap.lt_size e)) e
  exact h pins _ σ H xs _ Q I1 (by simpa using rv) hw
/-- target = value -/
def tAsg (te : TE) (g : TG) : TS := fun D σ H => te σ H fun x H1 => g x σ H1 D.nx
theorem ps_asg {tg e : Expr} {te : TE} {g : TG} (he : PE X e te) (hg : PG X tg g) (hs : swapsWithSole [tg] e pos.line X.env = pure false := by rfl) (hw : swappedStores [tg] e X.env = pure none := by rfl)
    (h1 : (assignEach [tg] X.env).map (·.2) = [assign tg X.env] := by rfl) : PS X (.Assign [tg] e pos) (tAsg te g) := by
  intro pins s σ H D I h
  refine wpAny_Assign_stores (thn (he pins s σ H _ I h) fun v s1 ⟨x, H1, I1, r1, q1⟩ => ?_) hs hw
  rw [h1]
  exact thn (hg pins s1 σ H1 x v _ I1 r1 q1) fun _ s2 q => q
/-- name = value -/
theorem ps_set {i : Nat} {x : Str} {e : Expr} {te : TE} {pos' : Pos} (hN : X.N.Nodup) (hi : X.N[i]? = some x) (hx : Loc X.env.scope x) (he : PE X e te) (hs : swapsWith e (some (.Name x pos')) pos.line X.env = pure false := by rfl) (hf : X.fn x = true ∨ X.env.scope.names.lookup x = some .local := by first | exact .inl rfl | exact .inr rfl | assumption) :
    PS X (.Assign [.Name x pos'] e pos) (tAsg te (gName i)) := by
  intro pins s σ H D I h
  refine wpAny_Assign_Name (thn (he pins s σ H _ I h) fun v s1 ⟨y, H1, I1, r1, q1⟩ => ?_) hs
  exact store_ok I1 hN hi hx r1 (fun s2 I2 => ⟨_, H1, I2, q1⟩) hf
end
/-! ### while -/
section
variable {X : Cx} {pos : Pos}
end
/-! ### what a loop or a comprehension walks -/
/-- at turn i: it yields x (the heap may grow), or it stops -/
structure It where
  go : Nat → Hp → Prop
  yld : Nat → Hp → V → Hp → Prop
  stop : Nat → Hp → Prop
/-- the iterator's own objects may turn: they are not the frame's, not pinned, younger than the entry (or a comprehension's own) -/
def FpOk (X : Cx) (pins : List (Addr × Obj)) (H : Hp) (b : Addr) : Prop :=
  H b = none ∧ b ≠ X.env.locals ∧ b ∉ X.fs ∧ (b ∈ X.ex ∨ X.s₀.heap.objs.size ≤ b) ∧ (∀ x c, X.env.cells.lookup x = some c → c ≠ b) ∧ ∀ p ∈ X.pn ++ pins, p.1 ≠ b
theorem Inv.fpOk {X : Cx} {pins : List (Addr × Obj)} {σ : St} {H H' : Hp} {s : Shared} {b : Addr} (I : Inv X pins σ H s) (hb : s.heap.objs.size ≤ b) (hn : H' b = none) : FpOk X pins H' b := by
  refine ⟨hn, Nat.ne_of_gt (Nat.lt_of_lt_of_le I.lt hb), I.nofs hb, .inr (Nat.le_trans I.sz hb), fun x c e z => ?_, fun p hp z => ?_⟩
  · obtain ⟨v, q⟩ := I.cell x c e
    exact absurd (Nat.lt_of_lt_of_le q.lt (by rw [z]; exact hb)) (Nat.lt_irrefl _)
  · exact absurd (Nat.lt_of_lt_of_le (Heap.lt_size (I.pin p hp).1) (by rw [z]; exact hb)) (Nat.lt_irrefl _)
structure Turn (P : Program) (w : World) (K : PySem.W.Frag) (tg : Expr) (J : It) (fp : List Addr) (it : Addr) (tn : Nat → Heap → Prop) : Prop where
  mem : it ∈ fp
  obj : ∀ i h, tn i h → ∀ b ∈ fp, ∃ o, h.get? b = some o ∧ ∀ v, o.data ≠ .cell v
  keep : ∀ i h h', tn i h → (∀ b ∈ fp, ∀ o, h.get? b = some o → h'.get? b = some o) → tn i h'
  item : ∀ (X : Cx), X.prog = P → X.w = w → X.K = K → X.calm = true → ∀ (i : Nat) (pins : List (Addr × Obj)) (s : Shared) (σ : St) (H : Hp) (E : Value → Shared → Prop), Inv X pins σ H s → (∀ b ∈ fp, FpOk X pins H b) → tn i s.heap → J.go i H →
    wpAny (model P w) X.A (pyNext (.ref it)) (fun r s1 => ∃ u, r = some u ∧
      wpAny (model P w) X.A (letOwnedTupleGo tg (.ref it) u) (fun _ s2 => ∃ x H', Inv X pins σ H' s2 ∧ RelV x u ∧ J.yld i H x H' ∧ tn (i + 1) s2.heap ∧ ∀ b ∈ fp, H' b = none) E s1) E s
  done : ∀ (X : Cx), X.prog = P → X.w = w → X.K = K → X.calm = true → ∀ (i : Nat) (pins : List (Addr × Obj)) (s : Shared) (σ : St) (H : Hp) (E : Value → Shared → Prop), Inv X pins σ H s → (∀ b ∈ fp, FpOk X pins H b) → tn i s.heap → J.stop i H →
    wpAny (model P w) X.A (pyNext (.ref it)) (fun r s1 => r = none ∧ Inv X pins σ H s1) E s
  self : ∀ (A : Around) (i : Nat) (s : Shared) (Q : Value → Shared → Prop) (E : Value → Shared → Prop), tn i s.heap → Q (.ref it) s → wpAny (model P w) A (pyIter (.ref it)) Q E s
abbrev TI := St → Hp → (It → Hp → Prop) → Prop
/-- an iterator has come -/
def PIE (X : Cx) (pins : List (Addr × Obj)) (σ : St) (tg : Expr) (R : It → Hp → Prop) (itv : Value) (s2 : Shared) : Prop :=
  ∃ (it : Addr) (fp : List Addr) (tn : Nat → Heap → Prop) (J : It) (H' : Hp), itv = .ref it ∧ Inv X pins σ H' s2 ∧ Turn X.prog X.w X.K tg J fp it tn ∧ tn 0 s2.heap ∧ (∀ b ∈ fp, FpOk X pins H' b) ∧ R J H'
def PI (X : Cx) (tg iter : Expr) (wi : TI) : Prop :=
  ∀ (pins : List (Addr × Obj)) (s : Shared) (σ : St) (H : Hp) (R : It → Hp → Prop), Inv X pins σ H s → wi σ H R →
    wpAny (model X.prog X.w) X.A (eval iter X.env) (fun v s1 => wpAny (model X.prog X.w) X.A (pyIter v) (PIE X pins σ tg R) X.xe s1) X.xe s
/-- the step ahead of the store is nothing for an iterator that keeps no tuple -/
theorem go_of {M : Model} {A : Around} {E : Value → Shared → Prop} {s : Shared} {tg : Expr} {it : Addr} {u : Value} {o : Obj} {n : String} {vs : Array Value} {Q : Unit → Shared → Prop} (ho : s.heap.get? it = some o) (hc : o.cls = .type n) (hd : o.data = .fields vs)
    (hn : ["enumerate", "zip", "dict_itemiterator", "dict_reverseitemiterator", "odict_iterator", "itertools.zip_longest", "itertools.pairwise"].contains n = false) (hQ : Q () s) : wpAny M A (letOwnedTupleGo tg (.ref it) u) Q E s := by
  unfold letOwnedTupleGo
  cases tg <;> first
    | exact wpAny_pure hQ
    | (cases u <;> first
        | exact wpAny_pure hQ
        | (refine wpAny_bind (wpAny_load ho ?_)
           rw [hc, hd]
           show wpAny M A (if (["enumerate", "zip", "dict_itemiterator", "dict_reverseitemiterator", "odict_iterator", "itertools.zip_longest", "itertools.pairwise"].contains n && vs[0]? == some (rawInt _)) = true then _ else _) Q E s
           rw [if_neg (by intro h; rw [hn, Bool.false_and] at h; cases h)]
           exact wpAny_pure hQ))
/-- the list at a, as it stands at each turn (a loop may append to it) -/
def Itl (K : PySem.W.Frag) (a : Addr) : It :=
  ⟨fun i H => ∃ xs x, SqL K H a xs ∧ xs[i]? = some x, fun i H x H' => H' = H ∧ ∀ xs, SqL K H a xs → xs[i]? = some x, fun i H => ∃ xs, SqL K H a xs ∧ xs.length ≤ i⟩
/-- lo, lo + 1, .. (n of them) -/
def Itr (lo : Int) (n : Nat) : It := ⟨fun i _ => i < n, fun i H x H' => H' = H ∧ x = .int (lo + i), fun i _ => n ≤ i⟩
theorem turn_list {P : Program} {w : World} {K : PySem.W.Frag} {tg : Expr} (a it : Addr) : Turn P w K tg (Itl K a) [it] it (fun i h => h.IsListIter it a i) where
  mem := by simp
  obj := fun i h st b hb => by
    have e : b = it := by simpa using hb
    subst e
    obtain ⟨o, e, c, d⟩ := st
    exact ⟨o, e, fun v z => by rw [d] at z; cases z⟩
  keep := fun i h h' st k => st.at fun o e => k it (by simp) o e
  item := by
    intro X hP hw hK hc i pins s σ H E I hf st hg
    subst hP hw hK
    obtain ⟨xs, x, hq, hx⟩ := hg
    obtain ⟨its, rv, p, hz⟩ := I.list hq
    obtain ⟨u, hu, ru⟩ := rv.get hx
    obtain ⟨f0, f1, f2, f3, f4, f5⟩ := hf it (by simp)
    refine wpAny_pyNext_list_item st p.isList (x := u) (by simpa using hu) fun h' st' sb => ?_
    have I1 : Inv X pins σ H { s with heap := h' } := I.turned (t' := s.toks) (fun b o hb e => (sb.2 b hb).trans e) f0 f1 f3 f4 f5
    obtain ⟨o, e, c, d⟩ := id st'
    exact ⟨u, rfl, go_of (s := { s with heap := h' }) e c d (by decide) ⟨x, H, I1, ru, ⟨rfl, fun ys hy => by rw [I.list_inj hy hq]; exact hx⟩, st', fun b hb => (hf b hb).1⟩⟩
  done := by
    intro X hP hw hK hc i pins s σ H E I hf st hg
    subst hP hw hK
    obtain ⟨xs, hq, hx⟩ := hg
    obtain ⟨its, rv, p, hz⟩ := I.list hq
    obtain ⟨f0, f1, f2, f3, f4, f5⟩ := hf it (by simp)
    have hl := rv.length
    exact wpAny_pyNext_list_end (I.ok.hd hc) st p.isList (by simp; omega) fun h' eb => ⟨rfl, I.turned (t' := s.toks) (fun b o hb e => eb b o hb e) f0 f1 f3 f4 f5⟩
  self := fun _ _ _ _ _ st h => wpAny_pyIter_listiter st h
theorem turn_range {P : Program} {w : World} {K : PySem.W.Frag} {tg : Expr} (it : Addr) (lo : Int) (n : Nat) : Turn P w K tg (Itr lo n) [it] it (fun i h => IsRangeIter h it (lo + (i : Nat) * 1) ((n : Int) - (i : Nat)) 1) where
  mem := by simp
  obj := fun i h st b hb => by
    have e : b = it := by simpa using hb
    subst e
    exact ⟨_, st, fun v z => by
      have z' : Data.fields _ = Data.cell v := z
      cases z'⟩
  keep := fun i h h' st k => k it (by simp) _ st
  item := by
    intro X hP hw hK hc i pins s σ H E I hf st hg
    subst hP hw hK
    obtain ⟨f0, f1, f2, f3, f4, f5⟩ := hf it (by simp)
    have W := Walks.range (prog := X.prog) (w := X.w) (I.ok.hd hc) it lo 1 n
    refine W.item i s _ _ hg st fun v h' tk hv st' kk => ?_
    obtain ⟨t, rfl⟩ := hv
    have I1 : Inv X pins σ H { s with heap := h', toks := tk } := I.turned (fun b o hb e => kk b o (by simpa using hb) e) f0 f1 f3 f4 f5
    refine ⟨_, rfl, go_of (s := { s with heap := h', toks := tk }) (n := "range_iterator") st' rfl rfl (by decide) ⟨.int (lo + i), H, I1, ⟨t, ?_⟩, ⟨rfl, rfl⟩, st', fun b hb => (hf b hb).1⟩⟩
    rw [Int.mul_one]
  done := by
    intro X hP hw hK hc i pins s σ H E I hf st hg
    subst hP hw hK
    obtain ⟨f0, f1, f2, f3, f4, f5⟩ := hf it (by simp)
    exact wpAny_pyNext_range_end (I.ok.hd hc) st (by have : n ≤ i := hg; omega) fun h' eb => ⟨rfl, I.turned (t' := s.toks) (fun b o hb e => eb b o hb e) f0 f1 f3 f4 f5⟩
  self := fun _ _ _ _ _ st h => wpAny_pyIter_rangeiter st h
end L2
namespace L2
open PySem PySem.Spec PyProof.Rows
section
variable {X : Cx} {tg : Expr}
def iList (K : PySem.W.Frag) (tl : TE) : TI := fun σ H R => tl σ H fun x H1 => ∃ a, x = .ref a ∧ (∃ xs, SqL K H1 a xs) ∧ R (Itl K a) H1
theorem pi_list {l : Expr} {tl : TE} (hl : PE X l tl) : PI X tg l (iList X.K tl) := by
  intro pins s σ H R I h
  refine thn (hl pins s σ H _ I h) fun v s1 ⟨x, H1, I1, r1, q1⟩ => ?_
  obtain ⟨a, e, ⟨xs, hq⟩, q⟩ := q1
  subst e
  cases r1
  obtain ⟨its, rv, p, hz⟩ := I1.list hq
  refine wpAny_pyIter_list p.isList ?_
  refine ⟨s1.heap.objs.size, [s1.heap.objs.size], _, _, H1, rfl, I1.kept (t' := s1.toks) fun b o e => Heap.get?_push_of_some _ e, turn_list a _, ⟨_, Heap.get?_push_size _ rfl, rfl, rfl⟩, fun b hb => ?_, q⟩
  have e : b = s1.heap.objs.size := by simpa using hb
  subst e
  exact I1.fpOk (Nat.le_refl _) (I1.hok.fresh (Nat.le_refl _))
/-- a range object just made, walked -/
theorem range_it {pins : List (Addr × Obj)} {σ : St} {H : Hp} {s : Shared} {R : It → Hp → Prop} {E : Value → Shared → Prop} {lo hi : Int} {t u v : Tok} {tk : Nat} (I : Inv X pins σ H s) (h1 : -(2 ^ 62) ≤ lo) (h2 : lo < 2 ^ 62) (h3 : -(2 ^ 62) ≤ hi) (h4 : hi < 2 ^ 62)
    (q : R (Itr lo (hi - lo).toNat) H) : wpAny (model X.prog X.w) X.A (pyIter (.ref s.heap.objs.size)) (PIE X pins σ tg R) E { s with heap := s.heap.push { cls := .type "range", data := .fields #[.int lo t, .int hi u, .int 1 v] }, toks := tk } := by
  refine wpAny_pyIter_range (IsRange.new ..) (small_one h1 h2 h3 h4) ?_
  have I1 : Inv X pins σ H { s with heap := s.heap.push { cls := .type "range", data := .fields #[.int lo t, .int hi u, .int 1 v] }, toks := tk } := I.kept fun b o e => Heap.get?_push_of_some _ e
  refine ⟨(s.heap.push { cls := .type "range", data := .fields #[.int lo t, .int hi u, .int 1 v] }).objs.size, [(s.heap.push { cls := .type "range", data := .fields #[.int lo t, .int hi u, .int 1 v] }).objs.size], _, _, H, rfl,
    I1.kept (t' := tk) fun b o e => Heap.get?_push_of_some _ e, turn_range _ lo (hi - lo).toNat, ?_, fun b hb => ?_, q⟩
  · have e1 : lo + ((0 : Nat) : Int) * 1 = lo := by simp
    have e2 : (((hi - lo).toNat : Nat) : Int) - ((0 : Nat) : Int) = Builtin.Range.rangeSize lo hi 1 := by rw [rangeSize_one]; split <;> omega
    show IsRangeIter _ _ (lo + ((0 : Nat) : Int) * 1) ((((hi - lo).toNat : Nat) : Int) - ((0 : Nat) : Int)) 1
    rw [e1, e2]
    exact Heap.get?_push_size _ rfl
  · have e : b = (s.heap.push { cls := .type "range", data := .fields #[.int lo t, .int hi u, .int 1 v] }).objs.size := by simpa using hb
    subst e
    exact I1.fpOk (Nat.le_refl _) (I1.hok.fresh (Nat.le_refl _))
def iRng1 (ta : TA) : TI := fun σ H R => ta σ H fun vs H1 => ∃ j : Int, vs = [.int j] ∧ -(2 ^ 62) ≤ j ∧ j < 2 ^ 62 ∧ R (Itr 0 j.toNat) H1
theorem pi_range1 {a : Expr} {ta : TA} {p pos : Pos} (hg : Gl X "range") (hm : X.mg "range" = none) (ha : PA X [a] ta) (hs : starEach [a] X.env = [(false, eval a X.env)] := by rfl) : PI X tg (.Call (.Name "range" p) [a] [] pos) (iRng1 ta) := by
  intro pins s σ H R I h
  refine Call_ (ld_blt I hg hm boot_range (PyProof.Rows.callWith_type1 (thn (ha pos pins s σ H _ I h) fun us s1 ⟨vs, H1, I1, r1, q1⟩ => ?_) hs rfl))
  obtain ⟨j, e, q1, q2, q⟩ := q1
  subst e
  cases r1 with
  | cons r rr =>
    cases rr
    obtain ⟨t, rfl⟩ := r
    exact call_range_1 (range_it I1 (by omega) (by omega) q1 q2 (by simpa using q))
/-! ### for -/
/-- W: the invariant by the turn and a measure; N: what the body is to reach -/
def tFor (wi : TI) (g : TG) (tb : TS) : TS := fun D σ H => wi σ H fun J H1 => ∃ W : Nat → Nat → St → Hp → Prop, (∃ m, W 0 m σ H1) ∧ ∀ i m σ H, W i m σ H →
  (J.stop i H ∧ D.nx σ H) ∨ (J.go i H ∧ ∃ N : St → Hp → Prop, (∀ σ' H', N σ' H' → ∃ m', m' < m ∧ W (i + 1) m' σ' H') ∧ ∀ x H', J.yld i H x H' → g x σ H' fun σ2 H2 => tb { D with nx := N, ct := N, bk := D.nx } σ2 H2)
/-- the records at fp as they stand -/
def pinsAt (fp : List Addr) (h : Heap) : List (Addr × Obj) := fp.filterMap fun b => (h.get? b).map fun o => (b, o)
theorem mem_pinsAt {fp : List Addr} {h : Heap} {b : Addr} {o : Obj} (hb : b ∈ fp) (e : h.get? b = some o) : (b, o) ∈ pinsAt fp h := List.mem_filterMap.mpr ⟨b, hb, by rw [e]; rfl⟩
theorem of_pinsAt {fp : List Addr} {h : Heap} {p : Addr × Obj} (hp : p ∈ pinsAt fp h) : p.1 ∈ fp ∧ h.get? p.1 = some p.2 := by
  obtain ⟨b, hb, e⟩ := List.mem_filterMap.mp hp
  cases q : h.get? b with
  | none => rw [q] at e; cases e
  | some o =>
    rw [q] at e
    have e' : (b, o) = p := Option.some.inj e
    subst e'
    exact ⟨hb, q⟩
theorem Inv.pinned {pins : List (Addr × Obj)} {σ : St} {H : Hp} {s : Shared} {fp : List Addr} (I : Inv X pins σ H s) (hf : ∀ b ∈ fp, FpOk X pins H b) (ho : ∀ b ∈ fp, ∃ o, s.heap.get? b = some o ∧ ∀ v, o.data ≠ .cell v) : Inv X (pins ++ pinsAt fp s.heap) σ H s :=
  I.pins_of fun p hp => (List.mem_append.mp hp).elim (fun z => I.pin p (List.mem_append_right _ z)) fun z => by
    obtain ⟨hb, e⟩ := of_pinsAt z
    obtain ⟨f0, f1, f2, _⟩ := hf p.1 hb
    obtain ⟨o, e', d⟩ := ho p.1 hb
    rw [e] at e'; cases e'
    exact ⟨e, f0, f1, f2, d⟩
theorem Inv.unpinned {pins pl : List (Addr × Obj)} {σ : St} {H : Hp} {s : Shared} (I : Inv X (pins ++ pl) σ H s) : Inv X pins σ H s := I.pins_of fun p hp => I.pin p (List.mem_append_right _ (List.mem_append_left _ hp))
theorem ps_for {iter : Expr} {body : List Stmt} {wi : TI} {g : TG} {tb : TS} {pos : Pos} (hp : PassesOwn (model X.prog X.w) X.A X.env X.xe) (hc : X.calm = true) (hi : PI X tg iter wi) (hg : PG X tg g) (hb : PSs X body tb)
    (hs : ∀ x, foldedSetIterable iter X.env x = pure x := by intro _; rfl) : PS X (.For tg iter body [] pos) (tFor wi g tb) := by
  intro pins s σ H D I h
  refine wpAny_For (thn (hi pins s σ H _ I h) fun v s1 h1 => thn h1 fun itv s2 h2 => ?_) hs
  obtain ⟨it, fp, tn, J, H2, e, I2, T, st2, f2, W, ⟨m0, w0⟩, turn⟩ := h2
  subst e
  -- what stays true of the iterator's objects through the loop
  have stat : ∀ {H' : Hp}, (∀ b ∈ fp, H' b = none) → ∀ b ∈ fp, FpOk X pins H' b := fun hn b hb => ⟨hn b hb, (f2 b hb).2⟩
  refine codeAny_forLoop_any (fun n s' => ∃ i σ' H', Inv X pins σ' H' s' ∧ tn i s'.heap ∧ (∀ b ∈ fp, H' b = none) ∧ W i n σ' H') ?_ m0 ⟨0, σ, H2, I2, st2, fun b hb => (f2 b hb).1, w0⟩
  rintro n s3 ⟨i, σ3, H3, I3, st3, fr3, w3⟩
  rcases turn i n σ3 H3 w3 with ⟨stop, qn⟩ | ⟨go, N, hN, step⟩
  · refine wpAny_passesOwn hp (thn (T.done X rfl rfl rfl hc i pins s3 σ3 H3 X.xe I3 (stat fr3) st3 stop) fun r s4 ⟨hr, I4⟩ => ?_)
    subst hr
    exact wpAny_execs_nil ⟨σ3, H3, I4, qn⟩
  · refine wpAny_passesOwn hp (thn (T.item X rfl rfl rfl hc i pins s3 σ3 H3 X.xe I3 (stat fr3) st3 go) fun r s4 ⟨u, hr, h4⟩ => ?_)
    subst hr
    refine wpAny_passesOwn hp (thn h4 fun _ s5 ⟨x, H5, I5, r5, y5, st5, fr5⟩ => ?_)
    have I5' := I5.pinned (stat fr5) (T.obj _ _ st5)
    refine wpAny_passesOwn hp (thn (hg _ s5 σ3 H5 x u _ I5' r5 (step x H5 y5)) fun _ s6 ⟨σ6, H6, I6, q6⟩ => ?_)
    refine wpAny_passesOwn hp (thn (hb _ s6 σ6 H6 _ I6 q6) fun f s7 q7 => ?_)
    have again : ∀ {σ7 : St} {H7 : Hp}, Inv X (pins ++ pinsAt fp s5.heap) σ7 H7 s7 → N σ7 H7 → ∃ m, m < n ∧ ∃ i σ' H', Inv X pins σ' H' s7 ∧ tn i s7.heap ∧ (∀ b ∈ fp, H' b = none) ∧ W i m σ' H' := fun {σ7 H7} I7 n7 => by
      obtain ⟨m', hm, w7⟩ := hN σ7 H7 n7
      refine ⟨m', hm, i + 1, σ7, H7, I7.unpinned, T.keep _ _ _ st5 fun b hb o e => (I7.pin (b, o) (List.mem_append_right _ (List.mem_append_right _ (mem_pinsAt hb e)))).1, fun b hb => ?_, w7⟩
      obtain ⟨o, e, d⟩ := T.obj _ _ st5 b hb
      exact (I7.pin (b, o) (List.mem_append_right _ (List.mem_append_right _ (mem_pinsAt hb e)))).2.1
    cases f with
    | next => obtain ⟨σ7, H7, I7, n7⟩ := q7; exact again I7 n7
    | cont => obtain ⟨σ7, H7, I7, n7⟩ := q7; exact again I7 n7
    | brk => obtain ⟨σ7, H7, I7, q7⟩ := q7; exact ⟨σ7, H7, I7.unpinned, q7⟩
    | ret v => obtain ⟨x7, σ7, H7, I7, r7, q7⟩ := q7; exact ⟨x7, σ7, H7, I7.unpinned, r7, q7⟩
end
end L2
namespace L2
open PySem PySem.Spec PyProof.Rows
abbrev R2 := V → V → Hp → VK → Prop
/-- a two-place operation on values: f is binaryOp op, inplaceOp op or compareOp op -/
def OpR (X : Cx) (f : Value → Value → Sem Value) (r : R2) : Prop :=
  ∀ (pins : List (Addr × Obj)) (s : Shared) (σ : St) (H : Hp) (x y : V) (v u : Value) (Q : VK), Inv X pins σ H s → RelV x v → RelV y u → r x y H Q →
    wpAny (model X.prog X.w) X.A (f v u) (EP X pins σ Q) X.xe s
/-- a call of a value that is known (a builtin, a type) with values -/
def CallR (X : Cx) (f : Value) (r : List V → Hp → VK → Prop) : Prop :=
  ∀ (pins : List (Addr × Obj)) (s : Shared) (σ : St) (H : Hp) (xs : List V) (us : List Value) (Q : VK), Inv X pins σ H s → Vals xs us → r xs H Q →
    wpAny (model X.prog X.w) X.A (call f us) (EP X pins σ Q) X.xe s
def tOp (r : R2) (ta tb : TE) : TE := fun σ H Q => ta σ H fun x H1 => tb σ H1 fun y H2 => r x y H2 Q
/-- ints in, under C, and a value out -/
def rI (C : Int → Int → Prop) (g : Int → Int → V) : R2 := fun x y H Q => ∃ i j, x = .int i ∧ y = .int j ∧ C i j ∧ Q (g i j) H
def rI0 (g : Int → Int → V) : R2 := fun x y H Q => ∃ i j, x = .int i ∧ y = .int j ∧ Q (g i j) H
section
variable {X : Cx} {a b c : Expr} {ta tb tc : TE} {pos : Pos}
theorem binT (ha : PE X a ta) (hb : PE X b tb) {pins : List (Addr × Obj)} {s : Shared} {σ : St} {H : Hp} {R : V → V → Hp → Prop} (I : Inv X pins σ H s)
    (h : ta σ H fun x H1 => tb σ H1 fun y H2 => R x y H2) {Q : Value → Shared → Prop} {f : Value → Value → Sem Value}
    (hf : ∀ v u s2 x y H2, Inv X pins σ H2 s2 → RelV x v → RelV y u → R x y H2 → wpAny (model X.prog X.w) X.A (f v u) Q X.xe s2) :
    wpAny (model X.prog X.w) X.A (eval a X.env) (fun v s₁ => wpAny (model X.prog X.w) X.A (eval b X.env) (fun u s₂ => wpAny (model X.prog X.w) X.A (f v u) Q X.xe s₂) X.xe s₁) X.xe s := by
  refine thn (ha pins s σ H _ I h) fun v s1 ⟨x, H1, I1, r1, q1⟩ => ?_
  refine thn (hb pins s1 σ H1 _ I1 q1) fun u s2 ⟨y, H2, I2, r2, q2⟩ => ?_
  exact hf v u s2 x y H2 I2 r1 r2 q2
theorem pe_op {op : Operator} {r : R2} (ho : OpR X (binaryOp op) r) (ha : PE X a ta) (hb : PE X b tb) : PE X (.BinOp a op b pos) (tOp r ta tb) := by
  intro pins s σ H Q I h
  exact wpAny_BinOp (binT ha hb I h fun v u s2 x y H2 I2 rx ry q => ho pins s2 σ H2 x y v u Q I2 rx ry q)
/-! ### ints -/
theorem opI {f : Value → Value → Sem Value} {C : Int → Int → Prop} {g : Int → Int → Int}
    (rule : ∀ (i j : Int) (t u : Tok) (s : Shared) (Q : Value → Shared → Prop) (E : Value → Shared → Prop), C i j → Q (.int (g i j) s.toks) { s with toks := s.toks + 1 } → wpAny (model X.prog X.w) X.A (f (.int i t) (.int j u)) Q E s) :
    OpR X f (rI C fun i j => .int (g i j)) := by
  intro pins s σ H x y v u Q I rx ry h
  obtain ⟨i, j, rfl, rfl, hc, q⟩ := h
  obtain ⟨t, rfl⟩ := rx
  obtain ⟨t', rfl⟩ := ry
  exact rule i j t t' s _ _ hc ⟨.int (g i j), H, I.tok _, ⟨_, rfl⟩, q⟩
theorem opI0 {f : Value → Value → Sem Value} {g : Int → Int → Int}
    (rule : ∀ (i j : Int) (t u : Tok) (s : Shared) (Q : Value → Shared → Prop) (E : Value → Shared → Prop), Q (.int (g i j) s.toks) { s with toks := s.toks + 1 } → wpAny (model X.prog X.w) X.A (f (.int i t) (.int j u)) Q E s) :
    OpR X f (rI0 fun i j => .int (g i j)) := by
  intro pins s σ H x y v u Q I rx ry h
  obtain ⟨i, j, rfl, rfl, q⟩ := h
  obtain ⟨t, rfl⟩ := rx
  obtain ⟨t', rfl⟩ := ry
  exact rule i j t t' s _ _ ⟨.int (g i j), H, I.tok _, ⟨_, rfl⟩, q⟩
theorem opB0 {f : Value → Value → Sem Value} {g : Int → Int → Bool}
    (rule : ∀ (i j : Int) (t u : Tok) (s : Shared) (Q : Value → Shared → Prop) (E : Value → Shared → Prop), Q (.bool (g i j)) s → wpAny (model X.prog X.w) X.A (f (.int i t) (.int j u)) Q E s) :
    OpR X f (rI0 fun i j => .bl (g i j)) := by
  intro pins s σ H x y v u Q I rx ry h
  obtain ⟨i, j, rfl, rfl, q⟩ := h
  obtain ⟨t, rfl⟩ := rx
  obtain ⟨t', rfl⟩ := ry
  exact rule i j t t' s _ _ ⟨.bl (g i j), H, I, rfl, q⟩
def CDiv (i j : Int) : Prop := 0 < j ∧ j < 1073741824
def CPow (i j : Int) : Prop := 0 ≤ j ∧ j ≤ 1000000 ∧ i.natAbs < 2 ^ 64
def CMul (i j : Int) : Prop := (-(2 ^ 64) < i ∧ i < 2 ^ 64) ∨ (-(2 ^ 64) < j ∧ j < 2 ^ 64)
theorem CMul.ok {i j : Int} (h : CMul i j) : IntMulOk i j := by
  rcases h with ⟨h1, h2⟩ | ⟨h1, h2⟩
  · exact .of_left (intBits_le_64 h1 h2)
  · exact .of_right (intBits_le_64 h1 h2)
theorem two_pow_nn (k : Nat) : (0 : Int) ≤ 2 ^ k := by
  rw [two_pow_cast]
  exact Int.natCast_nonneg _
theorem op_add : OpR X (binaryOp .Add) (rI0 fun i j => .int (i + j)) := opI0 fun _ _ _ _ _ _ _ q => add_int q
theorem op_mul : OpR X (binaryOp .Mult) (rI CMul fun i j => .int (i * j)) := opI fun _ _ _ _ _ _ _ hc q => mul_int q hc.ok
/-- // by a positive divisor -/
theorem op_fdiv : OpR X (binaryOp .FloorDiv) (rI CDiv fun i j => .int (i / j)) := opI fun i j _ _ _ _ _ hc q => by
  have h1 : (0 : Int) < j := hc.1
  have h2 : j < 1073741824 := hc.2
  exact floordiv_int (by omega) (by rw [Int.fdiv_eq_ediv_of_nonneg i (by omega)]; exact q) (.inl (PyProof.noPylong_small (by omega)))
/-- % by a positive divisor of any size -/
theorem op_mod : OpR X (binaryOp .Mod) (rI (fun _ j => 0 < j) fun i j => .int (i % j)) := opI fun i j _ _ _ _ _ hc q => by
  have h1 : (0 : Int) < j := hc
  exact mod_int' (by omega) (by rw [Int.fmod_eq_emod_of_nonneg i (by omega)]; exact q)
theorem op_shl : OpR X (binaryOp .LShift) (rI CPow fun i j => .int (i * 2 ^ j.toNat)) := opI fun _ _ _ _ _ _ _ hc q => lshift_int_small hc.1 hc.2.1 hc.2.2 q
theorem op_shr : OpR X (binaryOp .RShift) (rI (fun _ j => 0 ≤ j) fun i j => .int (i / 2 ^ j.toNat)) := opI fun i j _ _ _ _ _ hc q =>
  rshift_int hc (by rw [Int.fdiv_eq_ediv_of_nonneg i (two_pow_nn _)]; exact q)
theorem op_and : OpR X (binaryOp .BitAnd) (rI0 fun i j => .int (Builtin.bitAnd i j)) := opI0 fun _ _ _ _ _ _ _ q => and_int q
end
section
variable {X : Cx} {a b c : Expr} {ta tb tc : TE} {pos : Pos}
theorem op_lt : OpR X (compareOp .Lt) (rI0 fun i j => .bl (decide (i < j))) := opB0 fun _ _ _ _ _ _ _ q => lt_int q
/-- two rules for one operation: by cases -/
theorem OpR.or {f : Value → Value → Sem Value} {r r' : R2} (h : OpR X f r) (h' : OpR X f r') : OpR X f (fun x y H Q => r x y H Q ∨ r' x y H Q) := by
  intro pins s σ H x y v u Q I rx ry q
  rcases q with q | q
  · exact h pins s σ H x y v u Q I rx ry q
  · exact h' pins s σ H x y v u Q I rx ry q
theorem nomark (b : Expr) {op : CmpOp} (h : op ≠ .In := by decide) (h2 : op ≠ .NotIn := by decide) : behindInMarks op b = false := by
  have e1 : (op == CmpOp.In) = false := by cases op <;> first | rfl | exact absurd rfl h
  have e2 : (op == CmpOp.NotIn) = false := by cases op <;> first | rfl | exact absurd rfl h2
  cases b <;> simp [behindInMarks, e1, e2]
/-- a comparison as a value; hm: nomark b, or (for in, not in) by with_unfolding_all rfl -/
theorem pe_cmpR {op : CmpOp} {r : R2} (ho : OpR X (compareOp op) r) (ha : PE X a ta) (hb : PE X b tb) (hm : behindInMarks op b = false) : PE X (.Compare a [op] [b] pos) (tOp r ta tb) := by
  intro pins s σ H Q I h
  exact wpAny_Compare1 (binT ha hb I h fun v u s2 x y H2 I2 rx ry q => ho pins s2 σ H2 x y v u Q I2 rx ry q) hm
/-- a reading of a value as a test -/
def tTest (t : TE) : TT := fun σ H Q => t σ H fun x H' => ∃ k, x = .bl k ∧ Q k H'
theorem pt_cmpR {op : CmpOp} {r : R2} (ho : OpR X (compareOp op) r) (ha : PE X a ta) (hb : PE X b tb) (hm : behindInMarks op b = false) : PT X (.Compare a [op] [b] pos) (tTest (tOp r ta tb)) := by
  intro pins s σ H Q I h
  refine wpAny_isTrue_Compare1 (thn (ha pins s σ H _ I h) fun v s1 ⟨x, H1, I1, r1, q1⟩ => thn (hb pins s1 σ H1 _ I1 q1) fun u s2 ⟨y, H2, I2, r2, q2⟩ =>
    thn (ho pins s2 σ H2 x y v u _ I2 r1 r2 q2) fun c s3 ⟨z, H3, I3, r3, k, e, q3⟩ => ?_) hm
  subst e
  cases r3
  exact wpAny_truthy_bool ⟨H3, I3, q3⟩
theorem line63 : (sizeLine : Nat) < 2 ^ 63 := by rw [sizeLine_eq]; decide
/-! ### scalar builtins, by CallR -/
theorem vals1 {x : V} {us : List Value} (r : Vals [x] us) : ∃ u, us = [u] ∧ RelV x u := by
  cases r with
  | cons r1 r2 => cases r2; exact ⟨_, rfl, r1⟩
theorem vals2 {x y : V} {us : List Value} (r : Vals [x, y] us) : ∃ u w', us = [u, w'] ∧ RelV x u ∧ RelV y w' := by
  cases r with
  | cons r1 r2 =>
    cases r2 with
    | cons r3 r4 => cases r4; exact ⟨_, _, rfl, r1, r3⟩
theorem call_int1 : CallR X (.type "int") (fun xs H Q => (∃ i, xs = [.int i] ∧ Q (.int i) H) ∨ ∃ k, xs = [.bl k] ∧ Q (.int (if k then 1 else 0)) H) := by
  intro pins s σ H xs us Q I r h
  rcases h with ⟨i, rfl, q⟩ | ⟨k, rfl, q⟩
  · obtain ⟨u, rfl, t, rfl⟩ := vals1 r
    exact call_int_int ⟨.int i, H, I, ⟨_, rfl⟩, q⟩
  · obtain ⟨u, rfl, r1⟩ := vals1 r
    cases r1
    exact call_int_bool ⟨.int (if k then 1 else 0), H, I.tok _, ⟨_, rfl⟩, q⟩
/-- len of a str, a bytes, a list, a tuple -/
def LenV (K : PySem.W.Frag) (x : V) (H : Hp) (n : Nat) : Prop :=
  match x with
  | .str y => y.length ≤ sizeLine ∧ n = y.length
  | .byt y => y.size ≤ sizeLine ∧ n = y.size
  | .ref p => (∃ xs, SqL K H p xs ∧ n = xs.length) ∨ ∃ xs, SqT K H p xs ∧ n = xs.length
  | _ => False
theorem call_len : CallR X (.builtin "len") (fun xs H Q => ∃ x n, xs = [x] ∧ LenV X.K x H n ∧ Q (.int n) H) := by
  intro pins s σ H xs us Q I r h
  obtain ⟨x, n, rfl, e, q⟩ := h
  obtain ⟨u, rfl, rx⟩ := vals1 r
  have hl := line63
  have hs : sizeLine = 16777216 := sizeLine_eq
  cases x with
  | str y =>
    obtain ⟨t, rfl⟩ := rx
    obtain ⟨hy, e'⟩ : y.length ≤ sizeLine ∧ n = y.length := e
    subst e'
    exact len_str (by omega) ⟨.int _, H, I.tok _, ⟨_, rfl⟩, q⟩
  | byt y =>
    obtain ⟨t, rfl⟩ := rx
    obtain ⟨hy, e'⟩ : y.size ≤ sizeLine ∧ n = y.size := e
    subst e'
    exact PySem.W.len_bytes (by omega) ⟨.int _, H, I.tok _, ⟨_, rfl⟩, q⟩
  | ref p =>
    cases rx
    have e' : (∃ xs, SqL X.K H p xs ∧ n = xs.length) ∨ ∃ xs, SqT X.K H p xs ∧ n = xs.length := e
    rcases e' with ⟨xs, hx, e'⟩ | ⟨xs, hx, e'⟩
    · subst e'
      obtain ⟨its, r', pl, hz⟩ := I.list hx
      have hlen := r'.length
      exact Calls.call_len_list pl.isList (by simp only [List.size_toArray]; omega) ⟨.int xs.length, H, I.tok _, ⟨_, by simp only [List.size_toArray]; rw [hlen]⟩, q⟩
    · subst e'
      obtain ⟨its, r', pl, hz⟩ := I.tuple hx
      have hlen := r'.length
      exact len_tuple pl (by simp only [List.size_toArray]; omega) ⟨.int xs.length, H, I.tok _, ⟨_, by simp only [List.size_toArray]; rw [hlen]⟩, q⟩
  | _ => exact (show False from e).elim
end
end L2
namespace L2
open PySem PySem.Spec PyProof.Rows
/-! ### an instance, its attributes a map -/
structure ObjM (h : Heap) (x dx C : Addr) (mA : Str → Option Value) : Prop where
  obj : h.get? x = some (PySem.W.instObj C dx)
  ns : h.Ns1 dx mA
  ne : dx ≠ x
theorem lookIn_ns {h : Heap} {dx : Addr} {mA : Str → Option Value} (n : h.Ns1 dx mA) : ∃ od, h.get? dx = some od ∧ ∀ name, PySem.W.lookIn name od = some (mA name) := by
  obtain ⟨o, es, ep, ho, hd, hk, _, hm⟩ := n
  refine ⟨o, ho, fun name => ?_⟩
  have e := hm name
  unfold nsFind findBy at e
  rw [← Array.find?_toList] at e
  unfold PySem.W.lookIn
  rw [hd]
  dsimp only
  split
  · rename_i y q
    rw [q] at e
    exact congrArg some e
  · rename_i q
    rw [q] at e
    have a : es.toList.any (·.refKey) = false := by
      rw [List.any_eq_false]
      intro y hy
      obtain ⟨z, t, hkey⟩ := hk y (Array.mem_toList_iff.mp hy)
      simp [DictEntry.refKey, hkey]
    have a' : ¬ es.toList.any (·.refKey) = true := by rw [a]; exact Bool.false_ne_true
    rw [if_neg a']
    exact congrArg some e
theorem ObjM.look {h : Heap} {x dx C : Addr} {mA : Str → Option Value} (I : ObjM h x dx C mA) : ∃ od, PySem.W.InstAt h x (PySem.W.instObj C dx) C (some od) ∧ ∀ name, PySem.W.lookIn name od = some (mA name) :=
  let ⟨od, ho, hl⟩ := lookIn_ns I.ns
  ⟨od, ⟨I.obj, rfl, rfl, ho⟩, hl⟩
section
variable {prog : Program} {w : World} {A : Around} {E : Value → Shared → Prop} {s : Shared} {K : PySem.W.Frag} {x dx C f : Addr} {mA : Str → Option Value} {name : Str} {v : Value}
theorem get_map {expr : Bool} {Q : Value → Shared → Prop} (X : K.In s.heap) (I : ObjM s.heap x dx C mA) (hg : PySem.W.plainGet K C name = true) (hh : PySem.W.hasDictIn K C = true)
    (ha : PySem.W.findIn K (.ref C) name = some none) (hv : mA name = some v) (hv' : PySem.W.handedIn v = true) (h : Q v { s with toks := s.toks + 1 }) :
    wpAny (model prog w) A (getAttr (.ref x) name expr) Q E s := by
  obtain ⟨od, J, hl⟩ := I.look
  exact PySem.W.get_value X J (PySem.W.plainGet_of hg).1 (PySem.W.findObj_own hh ha rfl (by rw [hl, hv])) hv' h
theorem get_meth {pl : Sem Bool} {Q : Value × List Value → Shared → Prop} (X : K.In s.heap) (I : ObjM s.heap x dx C mA) (hg : PySem.W.plainGet K C name = true)
    (hf : PySem.W.findIn K (.ref C) name = some (some (.ref f))) (ht : PySem.W.isFn K (.ref f) = true) (hv : mA name = none) (h : Q (.ref f, [.ref x]) s) :
    wpAny (model prog w) A (getMethod (.ref x) name pl) Q E s := by
  obtain ⟨od, J, hl⟩ := I.look
  exact PySem.W.method_fn X J (PySem.W.plainGet_of hg).1 (PySem.W.plainGet_of hg).2 hf (beq_iff_eq.mp ht) (by show (PySem.W.lookIn name od).map (·.isSome) = some false; rw [hl, hv]; rfl) h
theorem set_map {ns : List Str} {Q : Unit → Shared → Prop} (X : K.In s.heap) (I : ObjM s.heap x dx C mA)
    (hs : PySem.W.findIn K (.ref C) "__setattr__" = some (some (.builtin "object.__setattr__"))) (hp : PySem.W.plainOver K C = true) (ht : PySem.W.takerIn K C name = some none) (hh : PySem.W.hasDictIn K C = true)
    (hw : PySem.Within mA ns) (hsz : ns.length ≤ sizeLine)
    (h : ∀ h', ObjM h' x dx C (fun y => if y = name then some v else mA y) → Heap.SameBut dx s.heap h' → Q () { s with heap := h', toks := s.toks + 2 }) :
    wpAny (model prog w) A (setAttr (.ref x) name v) Q E s := by
  obtain ⟨od, J, hl⟩ := I.look
  refine PySem.W.set_plain X J hs (PySem.W.osa_open (s := { s with toks := s.toks + 1 }) (r := none) X J hp ht fun b => ?_)
  obtain ⟨cd, hc, hd'⟩ := PySem.W.any_some hh
  have hx : s.heap.get? x = some ⟨.ref C, some dx, .plain, #[]⟩ := I.obj
  refine wpAny_bind (wpAny_pure (wpAny_bind (wpAny_bind (wpAny_loadPart hx (wpAny_bind (PySem.W.Looks.here (s := { s with toks := s.toks + 1 }) (PySem.W.looks_clsIn X hc) ?_))))))
  rw [hd']
  refine wpAny_pure (a := some dx) (wpAny_bind (wpAny_pure (wpAny_bind ?_)))
  refine wpAny_nsSet1 (s := { s with toks := s.toks + 1 }) I.ns fun h' hn2 hs2 => ?_
  obtain ⟨oD, esD, epD, hoD, hdD, hcD⟩ := hn2.count (PySem.Within.cons name v hw)
  refine wpAny_bind (wpAny_lookBehind hoD (by rw [hdD]; exact pastItsLine_dict (Nat.le_trans hcD (by rw [List.length_cons]; omega))) ?_)
  exact wpAny_pure (h _ ⟨(hs2.2 _ (Ne.symm I.ne)).trans I.obj, hn2, I.ne⟩ hs2)
/-- C(..): the dict at the heap's end, the instance behind it; then its __init__ -/
theorem make_map {R : Result → Shared → Prop} {vs : List Value} {kw : List (Str × Value)} (X : K.In s.heap) (hm : PySem.W.makesIn K C = true)
    (hi : PySem.W.findIn K (.ref C) "__init__" = some (some (.ref f))) (hf : PySem.W.typeIn K (.ref f) = some (.type "function"))
    (h : codeAny (model prog w) (A.under (.builtin "type.__call__" ⟨.ref C :: vs, kw⟩)) (.call (.ref f) ⟨.ref (s.heap.objs.size + 1) :: vs, kw⟩) (PySem.W.InitBack (s.heap.objs.size + 1) R)
      { s with heap := (s.heap.push PySem.W.emptyDict).push (PySem.W.instObj C s.heap.objs.size) }) :
    codeAny (model prog w) A (.call (.ref C) ⟨vs, kw⟩) R s := by
  obtain ⟨hh, g, d, t, os⟩ := s
  exact PySem.W.make_core (PySem.W.makes_of X hm) (PySem.W.looks_findIn X hi) (fun self => PySem.W.bind_fn X self hf) (.inl rfl) h
/-- C() where there is no __init__ but object's -/
theorem make_map0 {R : Result → Shared → Prop} (X : K.In s.heap) (hm : PySem.W.makesIn K C = true)
    (hi : PySem.W.findIn K (.ref C) "__init__" = some (some (.builtin "object.__init__")))
    (hb : ∀ self, PySem.W.Looks (model prog w) s.heap (bindSpecial (.builtin "object.__init__") self) (.builtin "object.__init__", [self]))
    (h : codeAny (model prog w) (A.under (.builtin "type.__call__" ⟨[.ref C], []⟩)) (.call (.builtin "object.__init__") ⟨[.ref (s.heap.objs.size + 1)], []⟩) (PySem.W.InitBack (s.heap.objs.size + 1) R)
      { s with heap := (s.heap.push PySem.W.emptyDict).push (PySem.W.instObj C s.heap.objs.size) }) :
    codeAny (model prog w) A (.call (.ref C) ⟨[], []⟩) R s := by
  obtain ⟨hh, g, d, t, os⟩ := s
  exact PySem.W.make_core (PySem.W.makes_of X hm) (PySem.W.looks_findIn X hi) hb (.inr ⟨rfl, rfl⟩) h
end
/-! ### the attributes as a list of pairs -/
def putF (f : Str) (v : V) : List (Str × V) → List (Str × V)
  | [] => [(f, v)]
  | (g, x) :: r => if g = f then (g, v) :: r else (g, x) :: putF f v r
theorem lookup_putF (f g : Str) (v : V) : ∀ fs : List (Str × V), (putF f v fs).lookup g = if g = f then some v else fs.lookup g
  | [] => by
    show List.lookup g [(f, v)] = _
    by_cases h : g = f
    · have hb : (g == f) = true := beq_iff_eq.mpr h
      simp only [List.lookup, hb, if_pos h]
    · have hb : (g == f) = false := beq_eq_false_iff_ne.mpr h
      simp only [List.lookup, hb, if_neg h]
  | (k, x) :: r => by
    have ih := lookup_putF f g v r
    rw [show putF f v ((k, x) :: r) = (if k = f then (k, v) :: r else (k, x) :: putF f v r) from rfl]
    by_cases hk : k = f
    · rw [if_pos hk]
      by_cases h : g = k
      · have hb : (g == k) = true := beq_iff_eq.mpr h
        simp only [List.lookup, hb, if_pos (h.trans hk)]
      · have hb : (g == k) = false := beq_eq_false_iff_ne.mpr h
        simp only [List.lookup, hb, if_neg (fun e : g = f => h (e.trans hk.symm))]
    · rw [if_neg hk]
      by_cases h : g = k
      · have hb : (g == k) = true := beq_iff_eq.mpr h
        simp only [List.lookup, hb, if_neg (fun e : g = f => hk (h.symm.trans e))]
      · have hb : (g == k) = false := beq_eq_false_iff_ne.mpr h
        simp only [List.lookup, hb]
        exact ih
theorem keys_putF (f : Str) (v : V) : ∀ fs : List (Str × V), f ∈ (putF f v fs).map (·.1) ∧ ∀ g, g ∈ fs.map (·.1) → g ∈ (putF f v fs).map (·.1)
  | [] => ⟨by simp [putF], fun g h => by simp at h⟩
  | (k, x) :: r => by
    obtain ⟨i1, i2⟩ := keys_putF f v r
    rw [show putF f v ((k, x) :: r) = (if k = f then (k, v) :: r else (k, x) :: putF f v r) from rfl]
    by_cases hk : k = f
    · rw [if_pos hk]
      subst hk
      exact ⟨by simp, fun g h => by simpa using h⟩
    · rw [if_neg hk]
      refine ⟨?_, fun g h => ?_⟩
      · rw [List.map_cons]
        exact List.mem_cons_of_mem _ i1
      · rw [List.map_cons] at h ⊢
        rcases List.mem_cons.mp h with e | e
        · exact List.mem_cons.mpr (.inl e)
        · exact List.mem_cons_of_mem _ (i2 g e)
theorem length_putF (f : Str) (v : V) : ∀ fs : List (Str × V), (putF f v fs).length ≤ fs.length + 1
  | [] => by simp [putF]
  | (k, x) :: r => by
    have ih := length_putF f v r
    rw [show putF f v ((k, x) :: r) = (if k = f then (k, v) :: r else (k, x) :: putF f v r) from rfl]
    by_cases hk : k = f
    · rw [if_pos hk, List.length_cons, List.length_cons]; omega
    · rw [if_neg hk, List.length_cons, List.length_cons]; omega
theorem RelO.some_of {v : V} {o : Option Value} (r : RelO (some v) o) : ∃ u, o = some u ∧ RelV v u := by
  cases o with
  | none => exact (show False from r).elim
  | some u => exact ⟨u, rfl, r⟩
theorem RelO.none_of {o : Option Value} (r : RelO none o) : o = none := by
  cases o with
  | none => rfl
  | some u => exact (show False from r).elim
theorem handed_of {v : V} {u : Value} (r : RelV v u) : PySem.W.handedIn u = true := by
  cases v with
  | non => cases (show u = Value.none from r); rfl
  | bl b => cases (show u = Value.bool b from r); rfl
  | int i => obtain ⟨t, e⟩ := (show ∃ t, u = Value.int i t from r); cases e; rfl
  | str x => obtain ⟨t, e⟩ := (show ∃ t, u = Value.str x t from r); cases e; rfl
  | byt b => obtain ⟨t, e⟩ := (show ∃ t, u = Value.bytes b t from r); cases e; rfl
  | flt b => obtain ⟨t, e⟩ := (show ∃ t, u = Value.float b t from r); cases e; rfl
  | ref a => cases (show u = Value.ref a from r); rfl
  | ty n => cases (show u = Value.type n from r); rfl
section
variable {P : Program} {w : World} {H H' : Hp} {h h' : Heap} {a C dx : Addr} {fs fs' : List (Str × V)}
theorem ins_get (hok : HOk P w H h) (e : H a = some (.ins C dx fs)) : ∃ mA, ObjM h a dx C mA ∧ (∀ f, RelO (fs.lookup f) (mA f)) ∧ PySem.Within mA (fs.map (·.1)) ∧ fs.length ≤ 1000 ∧ H dx = some (.own a) := by
  obtain ⟨d, z, ne, ob, mA, n, r, q⟩ := (show ObjOk P w H h a (.ins C dx fs) from hok a _ e)
  exact ⟨mA, ⟨ob, n, ne⟩, r, q, z, d⟩
end
/-! ### what of the text a class must have -/
structure Cls (K : PySem.W.Frag) (C : Addr) : Prop where
  pg : PySem.W.plainGet K C Str.empty = true
  hd : PySem.W.hasDictIn K C = true
  po : PySem.W.plainOver K C = true
  sa : PySem.W.findIn K (.ref C) "__setattr__" = some (some (.builtin "object.__setattr__"))
theorem Cls.get {K : PySem.W.Frag} {C : Addr} (c : Cls K C) (f : Str) : PySem.W.plainGet K C f = true := c.pg
/-- no class of it has the name -/
def NoAttr (K : PySem.W.Frag) (C : Addr) (f : Str) : Prop := PySem.W.findIn K (.ref C) f = some none
theorem NoAttr.taker {K : PySem.W.Frag} {C : Addr} {f : Str} (n : NoAttr K C f) : PySem.W.takerIn K C f = some none := by
  unfold PySem.W.takerIn
  rw [show PySem.W.findIn K (.ref C) f = some none from n]
  rfl
/-- a constant of the class -/
structure Con (K : PySem.W.Frag) (C : Addr) (f : Str) (v : V) (u : Value) : Prop where
  at_ : PySem.W.findIn K (.ref C) f = some (some u)
  rel : RelV v u
  get : PySem.W.specialIn K u "__get__" = some none
  cp : PySem.W.copiedNames.contains f = false
/-- a method: a plain def of the class or of one above it -/
structure Meth (K : PySem.W.Frag) (C : Addr) (m : Str) (f : Addr) : Prop where
  at_ : PySem.W.findIn K (.ref C) m = some (some (.ref f))
  fn : PySem.W.isFn K (.ref f) = true
  kp : PySem.W.keepIn K (.ref f) = true
section
variable {X : Cx} {pins : List (Addr × Obj)} {σ : St} {H : Hp} {s : Shared} {a C dx : Addr} {fs : List (Str × V)} {f : Str} {v : V} {A : Around} {E : Value → Shared → Prop}
theorem getattr_ok {b : Bool} {Q : Value → Shared → Prop} (I : Inv X pins σ H s) (e : H a = some (.ins C dx fs)) (c : Cls X.K C) (n : NoAttr X.K C f) (l : fs.lookup f = some v)
    (h : ∀ u s', Inv X pins σ H s' → RelV v u → Q u s') : wpAny (model X.prog X.w) A (getAttr (.ref a) f b) Q E s := by
  obtain ⟨mA, O, r, _, _, _⟩ := ins_get I.hok e
  obtain ⟨u, hu, ru⟩ := RelO.some_of (v := v) (o := mA f) (by rw [← l]; exact r f)
  exact get_map I.kIn O (c.get f) c.hd n hu (handed_of ru) (h u _ (I.tok _) ru)
theorem getmeth_ok {m : Str} {g : Addr} {pl : Sem Bool} {Q : Value × List Value → Shared → Prop} (I : Inv X pins σ H s) (e : H a = some (.ins C dx fs)) (c : Cls X.K C) (k : Meth X.K C m g) (l : fs.lookup m = none)
    (h : Q (.ref g, [.ref a]) s) : wpAny (model X.prog X.w) A (getMethod (.ref a) m pl) Q E s := by
  obtain ⟨mA, O, r, _, _, _⟩ := ins_get I.hok e
  have hn : mA m = none := RelO.none_of (by rw [← l]; exact r m)
  exact get_meth I.kIn O (c.get m) k.at_ k.fn hn h
theorem setattr_ok {y : V} {u : Value} {Q : Unit → Shared → Prop} (I : Inv X pins σ H s) (e : H a = some (.ins C dx fs)) (c : Cls X.K C) (n : NoAttr X.K C f) (hl : fs.length < 1000) (ry : RelV y u)
    (h : ∀ s', Inv X pins σ (upd H a (.ins C dx (putF f y fs))) s' → Q () s') : wpAny (model X.prog X.w) A (setAttr (.ref a) f u) Q E s := by
  obtain ⟨mA, O, r, wi, _, ho⟩ := ins_get I.hok e
  have hz : (fs.map (·.1)).length ≤ sizeLine := by rw [List.length_map, sizeLine_eq]; omega
  refine set_map I.kIn O c.sa c.po n.taker c.hd wi hz fun h' O' sb => h _ ?_
  have hd : ∃ o, h'.get? dx = some o := let ⟨o, _, _, e', _⟩ := O'.ns; ⟨o, e'⟩
  refine I.write (x := a) (e := dx) (by rw [e]; exact True.intro) (.inr ho) (fun b q hb z => (sb.2 b hb).trans z) hd ?_
  refine ⟨by rw [upd_ne O.ne]; exact ho, ?_, O.ne, O'.obj, _, O'.ns, fun g => ?_, fun g hg => ?_⟩
  · have := length_putF f y fs; omega
  · show RelO ((putF f y fs).lookup g) (if g = f then some u else mA g)
    rw [lookup_putF]
    by_cases q : g = f
    · rw [if_pos q, if_pos q]; exact ry
    · rw [if_neg q, if_neg q]; exact r g
  · by_cases q : g = f
    · rw [q]; exact (keys_putF f y fs).1
    · refine (keys_putF f y fs).2 g (wi g fun z => hg ?_)
      show (if g = f then some u else mA g) = none
      rw [if_neg q]; exact z
/-- a new instance, tracked, without attributes -/
theorem Inv.made (I : Inv X pins σ H s) : Inv X pins σ (upd (upd H s.heap.objs.size (.own (s.heap.objs.size + 1))) (s.heap.objs.size + 1) (.ins C s.heap.objs.size []))
    { s with heap := (s.heap.push PySem.W.emptyDict).push (PySem.W.instObj C s.heap.objs.size) } := by
  have e1 : (s.heap.push PySem.W.emptyDict).get? s.heap.objs.size = some PySem.W.emptyDict := Heap.get?_push_size s.heap rfl
  have e2 : ((s.heap.push PySem.W.emptyDict).push (PySem.W.instObj C s.heap.objs.size)).get? (s.heap.objs.size + 1) = some (PySem.W.instObj C s.heap.objs.size) := by
    have := Heap.get?_push_size (s.heap.push PySem.W.emptyDict) (o := PySem.W.instObj C s.heap.objs.size) rfl
    rwa [Heap.size_push] at this
  have e3 : (s.heap.push PySem.W.emptyDict).Ns s.heap.objs.size (fun _ => none) := ⟨PySem.W.emptyDict, #[], _, e1, rfl, (fun e he => absurd he (by simp)), fun _ => rfl⟩
  have I1 := I.laid (a := s.heap.objs.size) (o := .own (s.heap.objs.size + 1)) (h' := s.heap.push PySem.W.emptyDict) (t' := s.toks) (fun b u q => Heap.get?_push_of_some _ q) (Nat.le_refl _) ⟨_, e1⟩
  refine I1.laid (a := s.heap.objs.size + 1) (o := .ins C s.heap.objs.size []) (t' := s.toks) (fun b u q => Heap.get?_push_of_some _ q) (Nat.le_of_eq (Heap.size_push _ _)) ?_
  have ne : s.heap.objs.size ≠ s.heap.objs.size + 1 := Nat.ne_of_lt (Nat.lt_succ_self _)
  refine ⟨by rw [upd_ne ne, upd_same], Nat.zero_le _, ne, e2, fun _ => none, (Heap.Ns1.of_empty e3).at fun o q => Heap.get?_push_of_some _ q, fun _ => True.intro, fun y hy => absurd rfl hy⟩
/-- e.f where nothing but the object is asked: through attributeBase (super) and the last hold -/
theorem attr_of {prog : Program} {w : World} {env : Env} {e : Expr} {f : Str} {pos : Pos} {s : Shared} {Q : Value → Shared → Prop} (hb : attributeBase e f env (eval e env) = eval e env)
    (h : wpAny (model prog w) A (eval e env) (fun o s₁ => wpAny (model prog w) A (getAttr o f true) Q E s₁) E s) : wpAny (model prog w) A (eval (.Attribute e f pos) env) Q E s :=
  Attribute_any_ h (by rw [arm_eval_Attribute, hb])
end
/-! ### readings and rules -/
/-- e.f, an attribute of the instance -/
def tFld (K : PySem.W.Frag) (ta : TE) (f : Str) : TE := fun σ H Q => ta σ H fun x H1 => ∃ a C dx fs v, x = .ref a ∧ H1 a = some (.ins C dx fs) ∧ Cls K C ∧ NoAttr K C f ∧ fs.lookup f = some v ∧ Q v H1
/-- e.f = value -/
def sFld (K : PySem.W.Frag) (ta tv : TE) (f : Str) : TS := fun D σ H => tv σ H fun y H1 => ta σ H1 fun x H2 => ∃ a C dx fs, x = .ref a ∧ H2 a = some (.ins C dx fs) ∧ Cls K C ∧ NoAttr K C f ∧ fs.length < 1000 ∧
  D.nx σ (upd H2 a (.ins C dx (putF f y fs)))
section
variable {X : Cx} {o e value : Expr} {f : Str} {pos pos' tpos : Pos} {ta tv : TE}
theorem pe_fld (he : PE X e ta) (hb : attributeBase e f X.env (eval e X.env) = eval e X.env) : PE X (.Attribute e f pos) (tFld X.K ta f) := by
  intro pins s σ H Q I h
  refine attr_of hb (thn (he pins s σ H _ I h) fun u s1 ⟨x, H1, I1, rx, a, C, dx, fs, v, ex, ea, c, n, l, q⟩ => ?_)
  subst ex
  obtain rfl : u = Value.ref a := rx
  exact getattr_ok I1 ea c n l fun u' s2 I2 ru => ⟨v, H1, I2, ru, q⟩
theorem ps_fld (ha : PE X o ta) (hv : PE X value tv) (hs : swapsWith value (some (.Attribute o f pos')) pos.line X.env = pure false) : PS X (.Assign [.Attribute o f pos'] value pos) (sFld X.K ta tv f) := by
  intro pins s σ H D I h
  refine plainObj_wpAny_Assign_Attribute (thn (hv pins s σ H _ I h) fun u s1 ⟨y, H1, I1, ry, q⟩ => thn (ha pins s1 σ H1 _ I1 q) fun ov s2 ⟨x, H2, I2, rx, a, C, dx, fs, ex, ea, c, n, l, q2⟩ => ?_) hs
  subst ex
  obtain rfl : ov = Value.ref a := rx
  exact setattr_ok I2 ea c n l ry fun s3 I3 => ⟨σ, _, I3, q2⟩
end
/-! ### isinstance -/
section
variable {X : Cx} {pins : List (Addr × Obj)} {σ : St} {H : Hp} {s : Shared} {A : Around} {E : Value → Shared → Prop} {Q : Value → Shared → Prop} {c : Value} {b : Bool}
/-- the type of a value, as the fragment's deciders take it; for an instance its class -/
inductive TyOf (K : PySem.W.Frag) (H : Hp) : V → Value → Prop where
  | non : TyOf K H .non (.type "NoneType")
  | bl (x : Bool) : TyOf K H (.bl x) (.type "bool")
  | int (i : Int) : TyOf K H (.int i) (.type "int")
  | str (x : Str) : TyOf K H (.str x) (.type "str")
  | flt (x : UInt64) : TyOf K H (.flt x) (.type "float")
  | lst {a : Addr} {xs : List V} (e : H a = some (.lst xs)) : TyOf K H (.ref a) (.type "list")
  | frz {a : Addr} {o : Obj} {xs : List V} (e : H a = some (.frz o (.lst xs))) : TyOf K H (.ref a) (.type "list")
  | tup {a : Addr} {xs : List V} (e : H a = some (.tup xs)) : TyOf K H (.ref a) (.type "tuple")
  | dK {a : Addr} {kvs : List (Key × V)} (e : H a = some (.dK kvs)) : TyOf K H (.ref a) (.type "dict")
  | dT {a : Addr} {kvs : List (List Key × V)} (e : H a = some (.dT kvs)) : TyOf K H (.ref a) (.type "dict")
  | ins {a C dx : Addr} {fs : List (Str × V)} (e : H a = some (.ins C dx fs)) (cl : Cls K C) (ha : PySem.W.findIn K (.ref C) "__class__" = some (some (.builtin "object.__class__")))
      (hn : PySem.W.specialIn K (.builtin "object.__class__") "__get__" = some (some (.builtin "getset_descriptor.__get__"))) (htk : PySem.W.takesIn K (.builtin "object.__class__") = some true)
      (hm : PySem.W.mroIn K C (.type "object") = some true) : TyOf K H (.ref a) (.ref C)
/-- isinstance(x, c) for one class c, a built-in or an own one: kitOne's answer -/
theorem isinst_ok {x : V} {u t : Value} (I : Inv X pins σ H s) (rx : RelV x u) (ty : TyOf X.K H x t) (e : PySem.W.kitOne X.K t c = some b) (h : ∀ tk, Q (.bool b) { s with toks := tk }) :
    wpAny (model X.prog X.w) A (call (.builtin "isinstance") [u, c]) Q E s := by
  cases ty with
  | non => cases (show u = Value.none from rx); exact PySem.W.kia_one PySem.W.kitx_none I.kIn True.intro e (fun z => nomatch z) h
  | bl y => cases (show u = Value.bool y from rx); exact PySem.W.kia_one PySem.W.kitx_bool I.kIn True.intro e (fun z => nomatch z) h
  | int i => obtain ⟨t, q⟩ := (show ∃ t, u = Value.int i t from rx); cases q; exact PySem.W.kia_one PySem.W.kitx_int I.kIn True.intro e (fun z => nomatch z) h
  | str y => obtain ⟨t, q⟩ := (show ∃ t, u = Value.str y t from rx); cases q; exact PySem.W.kia_one PySem.W.kitx_str I.kIn True.intro e (fun z => nomatch z) h
  | flt y => obtain ⟨t, q⟩ := (show ∃ t, u = Value.float y t from rx); cases q; exact PySem.W.kia_one PySem.W.kitx_float I.kIn True.intro e (fun z => nomatch z) h
  | @lst a xs ea =>
    cases (show u = Value.ref a from rx)
    obtain ⟨_, _, n, _, h1⟩ := (show ObjOk X.prog X.w H s.heap a (.lst xs) from I.hok a _ ea)
    exact PySem.W.kia_one PySem.W.kitx_list I.kIn ⟨_, h1, rfl⟩ e (fun z => nomatch z) h
  | @frz a ob xs ea =>
    cases (show u = Value.ref a from rx)
    obtain ⟨_, _, _, n, _, h1⟩ := (show ObjOk X.prog X.w H s.heap a (.frz ob (.lst xs)) from I.hok a _ ea)
    exact PySem.W.kia_one PySem.W.kitx_list I.kIn ⟨_, h1, rfl⟩ e (fun z => nomatch z) h
  | @tup a xs ea =>
    cases (show u = Value.ref a from rx)
    obtain ⟨_, _, _, p⟩ := (show ObjOk X.prog X.w H s.heap a (.tup xs) from I.hok a _ ea)
    obtain ⟨o, h1, h2, _⟩ := p
    exact PySem.W.kia_one PySem.W.kitx_tuple I.kIn ⟨o, h1, h2⟩ e (fun z => nomatch z) h
  | @dK a kvs ea =>
    cases (show u = Value.ref a from rx)
    obtain ⟨_, _, vs, _, p⟩ := (show ObjOk X.prog X.w H s.heap a (.dK kvs) from I.hok a _ ea)
    obtain ⟨o, es, ep, h1, h2, _⟩ := p
    exact PySem.W.kia_one PySem.W.kitx_dict I.kIn ⟨o, h1, h2.1⟩ e (fun z => nomatch z) h
  | @dT a kvs ea =>
    cases (show u = Value.ref a from rx)
    obtain ⟨_, _, xs, _, o, es, ep, h1, h2, _⟩ := (show ObjOk X.prog X.w H s.heap a (.dT kvs) from I.hok a _ ea)
    exact PySem.W.kia_one PySem.W.kitx_dict I.kIn ⟨o, h1, h2.1⟩ e (fun z => nomatch z) h
  | @ins a C dx fs ea cl ha hn htk hm =>
    cases (show u = Value.ref a from rx)
    obtain ⟨mA, O, _⟩ := ins_get I.hok ea
    obtain ⟨od, J, _⟩ := O.look
    exact PySem.W.kia_one (PySem.W.kitx_own (cl.get _) cl.hd ha hn htk hm) I.kIn J e (fun z => nomatch z) h
end
end L2
namespace L2
open PySem PySem.Spec PyProof.Rows
/-! ### room -/
structure Room (k : Nat) (A : Around) : Prop where
  hd : A.handled = none
  dp : A.depth + 3 * k + 5 < recursionLimit
  un : A.units + 16 * k + 200 < cLine
theorem Room.mono {j k : Nat} {A : Around} (r : Room k A) (h : j ≤ k) : Room j A := ⟨r.hd, by have := r.dp; omega, by have := r.un; omega⟩
theorem Room.deeper {k : Nat} {A : Around} (r : Room (k + 1) A) (env : Env) : Room k (A.deeper env) :=
  ⟨r.hd, by have := r.dp; show A.depth + 1 + 3 * k + 5 < _; omega, by have := r.un; show A.units + 3 + 16 * k + 200 < _; omega⟩
theorem Room.in1 {k : Nat} {A : Around} (r : Room (k + 1) A) : Room k A.in1 :=
  ⟨r.hd, by have := r.dp; show A.depth + 3 * k + 5 < _; omega, by have := r.un; show A.units + 1 + 16 * k + 200 < _; omega⟩
theorem make_depth {A : Around} {C : Addr} {us : List Value} {kw : List (Str × Value)} : (A.under (.builtin "type.__call__" ⟨.ref C :: us, kw⟩)).depth = A.depth + 1 := by
  first | rfl | simp [Around.under, Code.weight, Code.isCreation, Code.isGuard, Code.isCaller, Code.frames, Code.isFrame, guardIds]
theorem make_units {A : Around} {C : Addr} {us : List Value} {kw : List (Str × Value)} : (A.under (.builtin "type.__call__" ⟨.ref C :: us, kw⟩)).units = A.units + 1 := by
  first | rfl | simp [Around.under, Code.cUnits, Code.frames, Code.isFrame]
theorem Room.make {k : Nat} {A : Around} (r : Room (k + 1) A) (C : Addr) (us : List Value) (kw : List (Str × Value)) : Room k (A.under (.builtin "type.__call__" ⟨.ref C :: us, kw⟩)) :=
  ⟨r.hd, by have := r.dp; rw [make_depth]; omega, by have := r.un; rw [make_units]; omega⟩
theorem Room.depth {k : Nat} {A : Around} (r : Room k A) : A.depth < recursionLimit := by have := r.dp; omega
theorem Room.units {k : Nat} {A : Around} (r : Room k A) : A.units + 64 < cLine := by have := r.un; omega
/-! ### argument lists and displays -/
def tNil : TA := fun _ H Q => Q [] H
def tCons (ta : TE) (tr : TA) : TA := fun σ H Q => ta σ H fun x H1 => tr σ H1 fun xs H2 => Q (x :: xs) H2
section
variable {X : Cx} {e : Expr} {es : List Expr} {te : TE} {t : TA} {pos : Pos}
theorem pa_nil : PA X [] tNil := fun _ _ _ _ H Q I h => Calls.spliced_nil ⟨[], H, I, .nil, h⟩
theorem pa_cons (ha : PE X e te) (hr : PA X es t) (hs : starEach (e :: es) X.env = (false, eval e X.env) :: starEach es X.env := by rfl) : PA X (e :: es) (tCons te t) := by
  intro pos pins s σ H Q I h
  rw [hs]
  show wpAny _ _ (spliced ((false, eval e X.env) :: backTo pos (starEach es X.env))) _ _ s
  refine Calls.spliced_cons (thn (ha pins s σ H _ I h) fun u s1 ⟨x, H1, I1, r1, q1⟩ => ?_)
  exact thn (hr pos pins s1 σ H1 _ I1 q1) fun us s2 ⟨xs, H2, I2, r2, q2⟩ => ⟨x :: xs, H2, I2, .cons r1 r2, q2⟩
/-- a tuple, a list of written items -/
def tTup (t : TA) : TE := fun σ H Q => t σ H fun xs H1 => xs.length ≤ sizeLine ∧ ∀ p, H1 p = none → Q (.ref p) (upd H1 p (.tup xs))
def tLst (t : TA) : TE := fun σ H Q => t σ H fun xs H1 => xs.length ≤ sizeLine ∧ ∀ p, H1 p = none → Q (.ref p) (upd H1 p (.lst xs))
theorem pe_tup {x1} (h : PA X es t) : PE X (.Tuple es x1 pos) (tTup t) := by
  intro pins s σ H Q I hq
  refine wpAny_Tuple_spliced (thn (h pos pins s σ H _ I hq) fun us s1 ⟨xs, H1, I1, r, z, q⟩ => ⟨by rw [← r.length]; exact z, ?_⟩)
  have hf : H1 s1.heap.objs.size = none := I1.hok.fresh (Nat.le_refl _)
  refine ⟨.ref s1.heap.objs.size, upd H1 s1.heap.objs.size (.tup xs), I1.laid (t' := s1.toks) (fun b u e => Heap.get?_push_of_some _ e) (Nat.le_refl _) ?_, rfl, q _ hf⟩
  exact ⟨z, us, r, ⟨_, Heap.get?_push_size _ rfl, rfl, _, rfl⟩⟩
theorem pe_lst (h : PA X es t) : PE X (.List es pos) (tLst t) := by
  intro pins s σ H Q I hq
  refine wpAny_List_spliced (thn (h pos pins s σ H _ I hq) fun us s1 ⟨xs, H1, I1, r, z, q⟩ => ⟨by rw [← r.length]; exact z, ?_⟩)
  have hf : H1 s1.heap.objs.size = none := I1.hok.fresh (Nat.le_refl _)
  refine ⟨.ref s1.heap.objs.size, upd H1 s1.heap.objs.size (.lst xs), I1.laid (t' := s1.toks) (fun b u e => Heap.get?_push_of_some _ e) (Nat.le_refl _) ?_, rfl, q _ hf⟩
  exact ⟨z, us, 0, r, Heap.get?_push_size _ rfl⟩
end
/-! ### what a def promises -/
/-- a def's promise: the bound arguments in the parameters' order, the heap, the wanted end, the wanted exception -/
abbrev Sp := List V → Hp → VK → XK → Prop
/-- how an exception lies behind a call (file 08 gives it): the callers' frames, abstract heap and state ahead of the call, the wish, the exception, the state -/
abbrev CXT := List Env → Hp → Shared → XK → Value → Shared → Prop
/-- the state at a call -/
structure Env0 (P : Program) (w : World) (K : PySem.W.Frag) (mg : Str → Option Value) (base : Heap) (A : Around) (outer : List Env) (s : Shared) (H : Hp) : Prop where
  frames : A.frames = some outer
  mod : Mod K mg base
  bs : ∀ b o, base.get? b = some o → s.heap.get? b = some o ∧ H b = none
  bsz : base.objs.size ≤ s.heap.objs.size
  funs : s.heap.FunFrames base outer
  frf : ∀ b ∈ frs outer, H b = none
  hok : HOk P w H s.heap
  bare : AllBare s.gens
/-- a call's end -/
def CE (outer : List Env) (P : Program) (w : World) (H : Hp) (s : Shared) (Q : VK) (u : Value) (s' : Shared) : Prop :=
  ∃ v H', s'.os = s.os ∧ AllBare s'.gens ∧ Un (frs outer) [] H H' s.heap s'.heap ∧ HOk P w H' s'.heap ∧ RelV v u ∧ Q v H'
def CR (CX : CXT) (outer : List Env) (P : Program) (w : World) (H : Hp) (s : Shared) (Q : VK) (E : XK) (r : Result) (s' : Shared) : Prop :=
  match r with
  | .ok (.ret u) => CE outer P w H s Q u s'
  | .ok _ => False
  | .error e => CX outer H s E e s'
structure FnOk (P : Program) (w : World) (K : PySem.W.Frag) (mg : Str → Option Value) (base : Heap) (CX : CXT) (k : Nat) (f : Addr) (fd : FuncData) (ps : List Str) (sp : Sp) : Prop where
  len : ∀ vs H Q E, sp vs H Q E → vs.length = ps.length
  run : ∀ (A : Around) (outer : List Env) (s : Shared) (H : Hp) (args : Args) (us : List Value) (vs : List V) (Q : VK) (E : XK), Room k A → Env0 P w K mg base A outer s H → BindsTo s fd args (ps.zip us) → Vals vs us → sp vs H Q E →
    codeAny (model P w) A (.call (.ref f) args) (CR CX outer P w H s Q E) s
theorem FnOk.mono {P : Program} {w : World} {K : PySem.W.Frag} {mg : Str → Option Value} {base : Heap} {CX : CXT} {j k : Nat} {f : Addr} {fd : FuncData} {ps : List Str} {sp : Sp} (F : FnOk P w K mg base CX j f fd ps sp) (h : j ≤ k) :
    FnOk P w K mg base CX k f fd ps sp := ⟨F.len, fun A outer s H args us vs Q E hr => F.run A outer s H args us vs Q E (hr.mono h)⟩
/-- a weaker promise -/
theorem FnOk.imp {P : Program} {w : World} {K : PySem.W.Frag} {mg : Str → Option Value} {base : Heap} {CX : CXT} {k : Nat} {f : Addr} {fd : FuncData} {ps : List Str} {sp sp' : Sp} (F : FnOk P w K mg base CX k f fd ps sp)
    (h : ∀ vs H Q E, sp' vs H Q E → sp vs H Q E) : FnOk P w K mg base CX k f fd ps sp' :=
  ⟨fun vs H Q E q => F.len vs H Q E (h _ _ _ _ q), fun A outer s H args us vs Q E hr he hb hv hs => F.run A outer s H args us vs Q E hr he hb hv (h _ _ _ _ hs)⟩
theorem Env0.make {P : Program} {w : World} {K : PySem.W.Frag} {mg : Str → Option Value} {base : Heap} {A : Around} {outer : List Env} {s : Shared} {H : Hp} (e : Env0 P w K mg base A outer s H) (C : Addr) (us : List Value) (kw : List (Str × Value)) :
    Env0 P w K mg base (A.under (.builtin "type.__call__" ⟨.ref C :: us, kw⟩)) outer s H := ⟨by first | exact e.frames | (simpa [Around.under, Code.envs, Code.isFrame, pushEnvs] using e.frames), e.mod, e.bs, e.bsz, e.funs, e.frf, e.hok, e.bare⟩
theorem Env0.in1 {P : Program} {w : World} {K : PySem.W.Frag} {mg : Str → Option Value} {base : Heap} {A : Around} {outer : List Env} {s : Shared} {H : Hp} (e : Env0 P w K mg base A outer s H) :
    Env0 P w K mg base A.in1 outer s H := ⟨e.frames, e.mod, e.bs, e.bsz, e.funs, e.frf, e.hok, e.bare⟩
section
variable {X : Cx} {pins : List (Addr × Obj)} {σ : St} {H : Hp} {s s' : Shared}
/-- from a body: what a callee wants -/
theorem Inv.env0 (I : Inv X pins σ H s) : Env0 X.prog X.w X.K X.mg X.base X.A X.stack s H :=
  ⟨I.ok.frames, I.ok.mod, I.bs, Nat.le_trans I.ok.bsz I.sz, I.stack, I.stkFree, I.hok, I.bare⟩
/-- behind a call -/
theorem Inv.after {Q : VK} {u : Value} (I : Inv X pins σ H s) (h : CE X.stack X.prog X.w H s Q u s') : EP X pins σ Q u s' := by
  obtain ⟨v, H', os, bare, un, hok, r, q⟩ := h
  obtain ⟨hh, g, d, t, os'⟩ := s'
  obtain rfl : os' = s.os := os
  exact ⟨v, H', I.call (h' := hh) (g' := g) (d' := d) (t' := t) (ch := []) un hok bare (fun b z => absurd z (by simp)), r, q⟩
end
/-! ### calls -/
/-- f(..): the written arguments, then the defaults dvs; E: what is wanted of an exception -/
def tCall (sp : Sp) (dvs : List V) (E : XK) (t : TA) : TE := fun σ H Q => t σ H fun vs H1 => sp (vs ++ dvs) H1 Q E
/-- how the parameters are bound: us the positional arguments, kw the keywords' values by name, ds the defaults that fill up -/
def Binds (K : PySem.W.Frag) (fd : FuncData) (ps : List Str) (ds : List Value) : Prop :=
  ∀ (s : Shared) (us : List Value), K.In s.heap → (us ++ ds).length = ps.length → BindsTo s fd ⟨us, []⟩ (ps.zip (us ++ ds))
/-- every parameter is given -/
theorem Binds.all {K : PySem.W.Frag} {fd : FuncData} {ps : List Str} (h : ∀ us : List Value, us.length = ps.length → bindArgs fd ⟨us, []⟩ = pure (ps.zip us)) : Binds K fd ps [] := fun s us _ hl => by
  rw [List.append_nil] at hl ⊢
  exact .of_eq (h us hl)
/-- an exception of a callee reaches what this body wants of exceptions -/
def Passes (CX : CXT) (X : Cx) (E : XK) : Prop := ∀ (pins : List (Addr × Obj)) (σ : St) (H : Hp) (s : Shared) (e : Value) (s' : Shared), Inv X pins σ H s → CX X.stack H s E e s' → X.xe e s'
section
variable {X : Cx} {CX : CXT} {k : Nat} {f C : Addr} {fd : FuncData} {ps : List Str} {sp : Sp} {dvs : List V} {ds : List Value} {E : XK} {x m : Str} {p pos apos : Pos} {e o : Expr} {es : List Expr} {ta : TE} {t : TA}
/-- the callee runs -/
theorem run_fn {pins : List (Addr × Obj)} {σ : St} {H : Hp} {s : Shared} {Q : VK} {us : List Value} {vs : List V} (F : FnOk X.prog X.w X.K X.mg X.base CX k f fd ps sp) (hr : Room k X.A) (hb : Binds X.K fd ps ds) (hd : Vals dvs ds) (hx : Passes CX X E)
    (I : Inv X pins σ H s) (r : Vals vs us) (h : sp (vs ++ dvs) H Q E) : wpAny (model X.prog X.w) X.A (call (.ref f) us) (EP X pins σ Q) X.xe s := by
  have r2 : Vals (vs ++ dvs) (us ++ ds) := r.append hd
  have hl : (us ++ ds).length = ps.length := by rw [← r2.length]; exact F.len _ _ _ _ h
  refine wpAny_call (codeAny_mono (F.run X.A X.stack s H ⟨us, []⟩ (us ++ ds) (vs ++ dvs) Q E hr I.env0 (hb s us I.kIn hl) r2 h) fun r s' hq => ?_)
  cases r with
  | error e => exact hx pins σ H s e s' I hq
  | ok fl =>
    cases fl with
    | ret u => exact I.after hq
    | next => exact False.elim hq
    | brk => exact False.elim hq
    | cont => exact False.elim hq
theorem pe_call (F : FnOk X.prog X.w X.K X.mg X.base CX k f fd ps sp) (hr : Room k X.A) (hg : Gl X x) (hm : X.mg x = some (.ref f)) (hk : PySem.W.keepIn X.K (.ref f) = true) (hb : Binds X.K fd ps ds) (hd : Vals dvs ds) (hx : Passes CX X E)
    (ha : PA X (e :: es) t) (hdb : (x == ("__debug__" : Str)) = false := by decide) (he : starEach (e :: es) X.env = (false, eval e X.env) :: starEach es X.env := by rfl) (hpl : (backTo pos (starEach es X.env)).any (·.1) = false := by rfl) :
    PE X (.Call (.Name x p) (e :: es) [] pos) (tCall sp dvs E t) := by
  intro pins s σ H Q I h
  refine wpAny_Call_Name_kw (ld_glob I hg hm ?_ hdb)
  refine PySem.W.callWith_K (h₀ := X.base) I.ok.mod.kin hk (thn (ha pos pins s σ H _ I h) fun us s1 ⟨vs, H1, I1, r, q⟩ => ⟨I1.kIn, ?_⟩) he hpl
  exact run_fn F hr hb hd hx I1 r q
/-- what a class must have to be made -/
structure Mk (K : PySem.W.Frag) (C f : Addr) : Prop where
  makes : PySem.W.makesIn K C = true
  init : PySem.W.findIn K (.ref C) "__init__" = some (some (.ref f))
  fn : PySem.W.isFn K (.ref f) = true
  kp : PySem.W.keepIn K (.ref C) = true
theorem run_make {pins : List (Addr × Obj)} {σ : St} {H : Hp} {s : Shared} {Q : VK} {us : List Value} {vs : List V} (M : Mk X.K C f) (F : FnOk X.prog X.w X.K X.mg X.base CX k f fd ps sp) (hr : Room (k + 1) X.A) (hb : Binds X.K fd ps ds) (hd : Vals dvs ds)
    (hx : Passes CX X E) (I : Inv X pins σ H s) (r : Vals vs us)
    (h : ∀ x dx, H x = none → H dx = none → dx ≠ x → sp (.ref x :: (vs ++ dvs)) (upd (upd H dx (.own x)) x (.ins C dx [])) (fun v H2 => v = .non ∧ Q (.ref x) H2) E) :
    wpAny (model X.prog X.w) X.A (call (.ref C) us) (EP X pins σ Q) X.xe s := by
  have hq := h (s.heap.objs.size + 1) s.heap.objs.size (I.hok.fresh (Nat.le_succ _)) (I.hok.fresh (Nat.le_refl _)) (Nat.ne_of_lt (Nat.lt_succ_self _))
  have I2 := Inv.made (C := C) I
  have r2 : Vals (V.ref (s.heap.objs.size + 1) :: (vs ++ dvs)) (Value.ref (s.heap.objs.size + 1) :: (us ++ ds)) := .cons rfl (r.append hd)
  have hl : (Value.ref (s.heap.objs.size + 1) :: us ++ ds).length = ps.length := by
    have e := r2.length
    rw [F.len _ _ _ _ hq] at e
    exact e.symm
  refine wpAny_call (make_map (f := f) I.kIn M.makes M.init (beq_iff_eq.mp M.fn) (codeAny_mono (F.run _ X.stack _ _ ⟨Value.ref (s.heap.objs.size + 1) :: us, []⟩ (Value.ref (s.heap.objs.size + 1) :: (us ++ ds)) _ _ E (hr.make C us [])
    (I2.env0.make C us []) (hb _ (Value.ref (s.heap.objs.size + 1) :: us) I2.kIn hl) r2 hq) fun r s' hq' => ?_))
  cases r with
  | error e => exact hx pins σ _ _ e s' I2 hq'
  | ok fl =>
    cases fl with
    | ret u =>
      obtain ⟨v, H', I3, rv, ev, q3⟩ := I2.after hq'
      subst ev
      exact ⟨rv, ⟨V.ref (s.heap.objs.size + 1), H', I3, rfl, q3⟩⟩
    | next => exact False.elim hq'
    | brk => exact False.elim hq'
    | cont => exact False.elim hq'
end
section
variable {X : Cx} {CX : CXT} {k : Nat} {f C : Addr} {fd : FuncData} {ps ks : List Str} {sp : Sp} {E : XK} {x m : Str} {p pos apos kpos : Pos} {e o : Expr} {es : List Expr} {kws : List Keyword} {te ta : TE} {t tk : TA} {nm : Option Str}
/-- how a call with keywords binds: g puts the positional values us and the keywords' values ws (names ks) in the parameters' order, defaults among them -/
structure KBinds (K : PySem.W.Frag) (fd : FuncData) (ps ks : List Str) (g : List Value → List Value → List Value) (gV : List V → List V → List V) : Prop where
  to : ∀ (s : Shared) (us ws : List Value), K.In s.heap → (g us ws).length = ps.length → BindsTo s fd ⟨us, ks.zip ws⟩ (ps.zip (g us ws))
  rel : ∀ {vs : List V} {us : List Value} {zs : List V} {ws : List Value}, Vals vs us → Vals zs ws → Vals (gV vs zs) (g us ws)
variable {g : List Value → List Value → List Value} {gV : List V → List V → List V}
end
/-! ### a def's body keeps its promise -/
/-- names: the parameters first -/
structure FnScope (N P : List Str) (sc : Scope) : Prop where
  kind : sc.kind = .function
  co : sc.isCoroutine = false
  gen : sc.isGenerator = false
  nd : N.Nodup
  pre : N.take P.length = P
  par : ∀ x ∈ P, sc.names.lookup x = some .local ∨ sc.names.lookup x = some .cell
  nofree : ∀ y ∈ sc.names, y.2 ≠ .free
theorem bindL_out {kindOf : Str → Option NameKind} {x : Str} : ∀ {binds : List (Str × Value)} {m : Str → Option Value}, (∀ v, (x, v) ∉ binds) → bindL kindOf binds m x = m x
  | [], _, _ => rfl
  | (n, v) :: r, m, h => by
    unfold bindL
    rw [bindL_out fun w hw => h w (List.mem_cons_of_mem _ hw)]
    split
    · have : x ≠ n := by rintro rfl; exact h v List.mem_cons_self
      simp [this]
    · rfl
theorem bindC_out {kindOf : Str → Option NameKind} {x : Str} : ∀ {binds : List (Str × Value)} {m : Str → Option Value}, (∀ v, (x, v) ∉ binds) → bindC kindOf binds m x = m x
  | [], _, _ => rfl
  | (n, v) :: r, m, h => by
    unfold bindC
    rw [bindC_out fun w hw => h w (List.mem_cons_of_mem _ hw)]
    split
    · rfl
    · have : x ≠ n := by rintro rfl; exact h v List.mem_cons_self
      simp [this]
theorem bindL_get {kindOf : Str → Option NameKind} {x : Str} {v : Value} : ∀ {P : List Str} {vs : List Value} {i : Nat} {m : Str → Option Value}, P.Nodup → P[i]? = some x → vs[i]? = some v → kindOf x = some .local →
    bindL kindOf (P.zip vs) m x = some v
  | [], _, _, _, _, h, _, _ => by simp at h
  | _ :: _, [], _, _, _, _, h, _ => by simp at h
  | p :: P, w :: vs, 0, m, nd, h1, h2, hk => by
    simp at h1 h2; subst h1; subst h2
    show bindL kindOf ((p, w) :: P.zip vs) m p = _
    unfold bindL
    rw [bindL_out fun v hv => (List.nodup_cons.mp nd).1 (List.of_mem_zip hv).1, if_pos hk]
    simp
  | p :: P, w :: vs, i + 1, m, nd, h1, h2, hk => by
    show bindL kindOf ((p, w) :: P.zip vs) m x = _
    unfold bindL
    exact bindL_get (i := i) (List.nodup_cons.mp nd).2 (by simpa using h1) (by simpa using h2) hk
theorem bindC_get {kindOf : Str → Option NameKind} {x : Str} {v : Value} : ∀ {P : List Str} {vs : List Value} {i : Nat} {m : Str → Option Value}, P.Nodup → P[i]? = some x → vs[i]? = some v → kindOf x ≠ some .local →
    bindC kindOf (P.zip vs) m x = some v
  | [], _, _, _, _, h, _, _ => by simp at h
  | _ :: _, [], _, _, _, _, h, _ => by simp at h
  | p :: P, w :: vs, 0, m, nd, h1, h2, hk => by
    simp at h1 h2; subst h1; subst h2
    show bindC kindOf ((p, w) :: P.zip vs) m p = _
    unfold bindC
    rw [bindC_out fun v hv => (List.nodup_cons.mp nd).1 (List.of_mem_zip hv).1, if_neg hk]
    simp
  | p :: P, w :: vs, i + 1, m, nd, h1, h2, hk => by
    show bindC kindOf ((p, w) :: P.zip vs) m x = _
    unfold bindC
    exact bindC_get (i := i) (List.nodup_cons.mp nd).2 (by simpa using h1) (by simpa using h2) hk
/-- the names' values at the entry -/
def start (N : List Str) (vs : List V) : St := vs.map some ++ List.replicate (N.length - vs.length) none
/-- the context of a def's body, at its entry; an exception leaves the frame, then lies as CX says -/
def cxOf (CX : CXT) (P : Program) (w : World) (K : PySem.W.Frag) (mg : Str → Option Value) (base : Heap) (N : List Str) (qual : Str) (scope : Scope) (f : Addr) (cd : Value) (A : Around) (outer : List Env) (s : Shared) (H : Hp) (E : XK) : Cx where
  prog := P
  w := w
  K := K
  mg := mg
  base := base
  A := A.deeper (envOfC qual scope s.heap.objs.size f cd)
  N := N
  s₀ := s
  H₀ := H
  env := envOfC qual scope s.heap.objs.size f cd
  outer := outer
  stack := envOfC qual scope s.heap.objs.size f cd :: outer
  ex := []
  calm := true
  fn := fun _ => true
  pn := []
  xe := fun e s' => wpAny (model P w) (A.deeper (envOfC qual scope s.heap.objs.size f cd)) (leaving (envOfC qual scope s.heap.objs.size f cd) e) (fun _ s'' => CX outer H s E e s'') (fun e' s'' => CX outer H s E e' s'') s'
theorem cell_has {sc : Scope} {n : Nat} {x : Str} (h : sc.names.lookup x = some .cell) : ∃ c, (cellsFrom n sc.names []).lookup x = some c := by
  have q := PySem.W.cellsFrom_some sc.names n [] (.inl h)
  exact Option.isSome_iff_exists.mp q
theorem inv_start {CX : CXT} {P : Program} {w : World} {K : PySem.W.Frag} {mg : Str → Option Value} {base : Heap} {N ps : List Str} {qual : Str} {scope : Scope} {f : Addr} {cd : Value} {A : Around} {outer : List Env} {s s1 : Shared} {H : Hp} {E : XK} {us : List Value} {vs : List V}
    (S : FnScope N ps scope) (hd : A.handled = none) (e0 : Env0 P w K mg base A outer s H) (hl : vs.length = ps.length) (r : Vals vs us)
    (x : InCallC s s.heap.objs.size (bindL (envOfC qual scope s.heap.objs.size f cd).kindOf (ps.zip us) fun _ => none) (cellsFrom (s.heap.objs.size + 1) scope.names []) (bindC (envOfC qual scope s.heap.objs.size f cd).kindOf (ps.zip us) fun _ => none) s1) :
    Inv (cxOf CX P w K mg base N qual scope f cd A outer s H E) [] (start N vs) H s1 := by
  have hpl : ps.length ≤ N.length := by have := congrArg List.length S.pre; rw [List.length_take] at this; omega
  obtain ⟨h1, tk, rfl, hk⟩ := x.done
  have noA : ∀ b : Addr, b ∉ (cxOf CX P w K mg base N qual scope f cd A outer s H E).ex := fun b z => absurd (show b ∈ ([] : List Addr) from z) (by simp)
  refine ⟨⟨e0.mod, S.kind, rfl, rfl, Nat.le_refl _, fun y z c h1 h2 => ?_, fun y hy => ?_, fun y c _ h => ?_, fun _ => hd, Around.frames_deeper e0.frames, .inr ⟨rfl, rfl⟩, fun b z => absurd z (noA b), e0.bs, e0.bsz, fun b _ _ => noA b, fun b z => absurd z (noA b), e0.funs, e0.frf⟩,
    rfl, e0.bare, Un.kept hk, ⟨_, x.toInCall.ns, fun i y v h1 h2 h3 => ?_⟩, fun y c h => ⟨_, x.cell y c h⟩, e0.hok.fresh (Nat.le_refl _), fun y c h => ?_, fun p hp => absurd (show p ∈ ([] : List (Addr × Obj)) from hp) (by simp), e0.hok.kept hk, ?_⟩
  · exact name_of_addr x.apart (PySem.mem_of_lookup h1) (PySem.mem_of_lookup h2)
  · have hy : scope.names.lookup y = some .cell ∨ scope.names.lookup y = some .free := hy
    rcases hy with hy | hy
    · exact cell_has hy
    · exact absurd rfl (S.nofree _ (PySem.mem_of_lookup hy))
  · exact Nat.le_of_lt (x.above y c (PySem.mem_of_lookup h))
  · have hi : i < vs.length := by
      unfold start at h2
      by_cases hi : i < vs.length
      · exact hi
      · rw [List.getElem?_append_right (by simpa using hi)] at h2
        rw [List.getElem?_replicate] at h2
        split at h2 <;> cases h2
    have ha : vs[i]? = some v := by
      unfold start at h2
      rw [List.getElem?_append_left (by simpa using hi), List.getElem?_map] at h2
      cases e : vs[i]? with
      | none => rw [e] at h2; cases h2
      | some a => rw [e] at h2; cases h2; rfl
    obtain ⟨u, hu, rv⟩ := r.get ha
    have hp : ps[i]? = some y := by
      rw [← S.pre, List.getElem?_take_of_lt (by omega)]; exact h1
    have ndP : ps.Nodup := by rw [← S.pre]; exact S.nd.sublist (List.take_sublist _ _)
    refine ⟨u, rv, ?_⟩
    rcases S.par y (List.mem_of_getElem? hp) with k | k
    · exact .inl ⟨k, bindL_get ndP hp hu k⟩
    · obtain ⟨c, e⟩ := cell_has (n := s.heap.objs.size + 1) k
      refine .inr ⟨.inl k, c, e, ?_⟩
      have q := x.cell y c e
      rw [bindC_get ndP hp hu (by show scope.names.lookup y ≠ _; rw [k]; decide)] at q
      exact q
  · exact e0.hok.fresh (Nat.le_of_lt (x.above y c (PySem.mem_of_lookup h)))
  · unfold start
    show _ = N.length
    rw [List.length_append, List.length_map, List.length_replicate]
    omega
/-- THE RULE: a def (or a method) of the text, by its body. The body's reading t is chosen for each entry; it is run at the parameters' values -/
theorem fn_of {CX : CXT} {P : Program} {w : World} {K : PySem.W.Frag} {mg : Str → Option Value} {base : Heap} {k : Nat} {f : Addr} {name qual : Str} {params : Arguments} {body : List Stmt} {scope : Scope} {dV kV doc pm cdv ct oc : Value} {an od : Option Addr}
    {osl : Array (Option Value)} {N ps : List Str} {sp : Sp} (lk : K.lookup f = some ⟨oc, od, .func (PySem.W.fnOf name qual params body scope dV kV doc pm an cdv ct), osl⟩) (hcd : PySem.W.codeIn K cdv qual = true) (S : FnScope N ps scope)
    (len : ∀ vs H Q E, sp vs H Q E → vs.length = ps.length)
    (hbody : ∀ (A : Around) (outer : List Env) (s : Shared) (H : Hp) (vs : List V) (Q : VK) (E : XK), Room k (A.deeper (envOfC qual scope s.heap.objs.size f cdv)) → sp vs H Q E →
      ∃ t, PSs (cxOf CX P w K mg base N qual scope f cdv A outer s H E) body t ∧ t { nx := fun _ H' => Q .non H', rt := Q } (start N vs) H) :
    FnOk P w K mg base CX (k + 1) f (PySem.W.fnOf name qual params body scope dV kV doc pm an cdv ct) ps sp := by
  refine ⟨len, fun A outer s H args us vs Q E hr e0 hb r hsp => ?_⟩
  have hl := len _ _ _ _ hsp
  have KX : K.In s.heap := e0.mod.kin.keeps fun b o e => (e0.bs b o e).1
  have lim : s.heap.NoLimit := e0.mod.nolimit.keeps fun b o e => (e0.bs b o e).1
  have hkind : ∀ y ∈ ps.zip us, scope.names.lookup y.1 = some .local ∨ (scope.names.lookup y.1 = some .cell ∧ ((cellsFrom (s.heap.objs.size + 1) scope.names []).lookup y.1).isSome = true) := fun ⟨n, v⟩ hy => by
    rcases S.par n (List.of_mem_zip hy).1 with q | q
    · exact .inl q
    · exact .inr ⟨q, PySem.W.cellsFrom_some _ _ _ (.inl q)⟩
  refine codeAny_call_function hr.depth (KX _ _ lk) rfl S.co S.gen rfl (PySem.W.codeRec_of KX hcd) (hb _ _ _ _ ?_)
  refine wpAny_newFunctionEnv_cells S.kind hkind fun env he s1 x => ?_
  subst he
  refine ⟨lim.keeps x.toInCall.keep, codeAny_func ?_⟩
  obtain ⟨t, ht, hq⟩ := hbody A outer s H vs Q E (hr.deeper _) hsp
  have I : Inv (cxOf CX P w K mg base N qual scope f cdv A outer s H E) [] (start N vs) H s1 := inv_start S hr.hd e0 hl r x
  refine wpAny_mono (ht [] s1 (start N vs) H _ I hq) (fun fl s' hs => ?_) fun e s' hs => hs
  have fin : ∀ {σ' : St} {H' : Hp} {v : V} {u : Value}, Inv (cxOf CX P w K mg base N qual scope f cdv A outer s H E) [] σ' H' s' → RelV v u → Q v H' → CE outer P w H s Q u s' :=
    fun {σ' H' v u} J rv q => ⟨v, H', J.os, J.bare, J.base, J.hok, rv, q⟩
  cases fl with
  | ret u =>
    obtain ⟨v, σ', H', J, rv, q⟩ := hs
    exact fin J rv q
  | next =>
    obtain ⟨σ', H', J, q⟩ := hs
    exact fin (v := V.non) (u := Value.none) J rfl q
  | brk =>
    obtain ⟨_, _, _, q⟩ := hs
    exact False.elim q
  | cont =>
    obtain ⟨_, _, _, q⟩ := hs
    exact False.elim q
end L2
namespace L2
open PySem PySem.Spec PyProof.Rows
section
variable {X : Cx} {x : Str} {p pos : Pos} {e : Expr} {es : List Expr} {t : TA} {id T : String} {r : List V → Hp → VK → Prop}
def tCB (r : List V → Hp → VK → Prop) (t : TA) : TE := fun σ H Q => t σ H fun vs H1 => r vs H1 Q
/-- f(e, ..), f a built-in function -/
theorem pe_callB (hc : CallR X (.builtin id) r) (hg : Gl X x) (hm : X.mg x = none) (hv : bootBuiltins x = some (.builtin id)) (ha : PA X (e :: es) t) (hn : x ≠ "__name__" := by decide) (hdb : (x == ("__debug__" : Str)) = false := by decide)
    (he : starEach (e :: es) X.env = (false, eval e X.env) :: starEach es X.env := by rfl) (hpl : (backTo pos (starEach es X.env)).any (·.1) = false := by rfl) : PE X (.Call (.Name x p) (e :: es) [] pos) (tCB r t) := by
  intro pins s σ H Q I h
  refine wpAny_Call_Name_kw (ld_blt I hg hm hv ?_ hn hdb)
  exact PyProof.Rows.callWith_builtin1 (thn (ha pos pins s σ H _ I h) fun us s1 ⟨vs, H1, I1, r1, q1⟩ => hc pins s1 σ H1 vs us Q I1 r1 q1) he hpl
/-- T(e, ..), T a built-in type -/
theorem pe_callTy (hc : CallR X (.type T) r) (hg : Gl X x) (hm : X.mg x = none) (hv : bootBuiltins x = some (.type T)) (ha : PA X (e :: es) t) (hn : x ≠ "__name__" := by decide) (hdb : (x == ("__debug__" : Str)) = false := by decide)
    (he : starEach (e :: es) X.env = (false, eval e X.env) :: starEach es X.env := by rfl) (hpl : (backTo pos (starEach es X.env)).any (·.1) = false := by rfl) : PE X (.Call (.Name x p) (e :: es) [] pos) (tCB r t) := by
  intro pins s σ H Q I h
  refine wpAny_Call_Name_kw (ld_blt I hg hm hv ?_ hn hdb)
  exact PyProof.Rows.callWith_type1 (thn (ha pos pins s σ H _ I h) fun us s1 ⟨vs, H1, I1, r1, q1⟩ => hc pins s1 σ H1 vs us Q I1 r1 q1) he hpl
end
end L2
namespace HT
open PySem PyProof.Rows
section
open PySem.SeqAt
open PySem.AutoSeq1 (wpAny_loadPart')
open PySem.MeetsSeq PySem.MeetsSeq2 PySem.MeetsSeq3
end
section
variable {prog : Program} {w : World} {A : Around} {E : Value → Shared → Prop} {s : Shared}
/-- t + u, t not empty -/
theorem cat_tup {t b : Addr} {vs ws : List Value} {Q : Value → Shared → Prop} (ht : IsTup s.heap t vs.toArray) (hb : IsTup s.heap b ws.toArray) (hv : vs ≠ [])
    (h1 : ws = [] → Q (.ref t) s) (h2 : ws ≠ [] → Q (.ref s.heap.objs.size) { s with heap := s.heap.push { cls := .type "tuple", data := .seq (vs ++ ws).toArray } })
    (hsz : vs.length + ws.length ≤ sizeLine) : wpAny (model prog w) A (binaryOp .Add (.ref t) (.ref b)) Q E s := by
  obtain ⟨⟨cls, dd, data, sl⟩, ho, hc, n, hd⟩ := id ht
  obtain ⟨⟨cls2, dd2, data2, sl2⟩, ho2, hc2, n2, hd2⟩ := id hb
  simp only at hc hd hc2 hd2
  subst hc hd hc2 hd2
  have e : vs.toArray ++ ws.toArray = (vs ++ ws).toArray := by simp
  by_cases hw : ws = []
  · exact concat_meets ⟨_, ho, rfl⟩ ⟨_, ho2, rfl⟩ noFill_tuple_add seq_tuple_add PySem.F.slot_tuple_add PySem.F.entry_tuple_add (PySem.F.args_tuple_add_2 _ _)
      (tuple_addW1 t b vs.toArray ws.toArray n n2 dd dd2 sl sl2 (by simpa using hv) (by simp [hw])) ⟨ho, ho2, h1 hw⟩
  · refine concat_meets ⟨_, ho, rfl⟩ ⟨_, ho2, rfl⟩ noFill_tuple_add seq_tuple_add PySem.F.slot_tuple_add PySem.F.entry_tuple_add (PySem.F.args_tuple_add_2 _ _)
      (tuple_addW2 t b vs.toArray ws.toArray n n2 dd dd2 sl sl2 (by simpa using hv) (by simpa using hw) (by rw [List.size_toArray, List.size_toArray]; exact hsz)) ⟨ho, ho2, ?_⟩
    rw [e]
    exact h2 hw
/-! ### t[a:b], not the whole -/
/-- a slice's bound as a place among n (d where it is left out) -/
def sIx (n d : Nat) : Option Int → Nat
  | none => d
  | some v => if v < 0 then (v + (n : Int)).toNat else min v.toNat n
theorem sIx_le (n d : Nat) (hd : d ≤ n) (o : Option Int) : sIx n d o ≤ n := by
  cases o with
  | none => exact hd
  | some v =>
    show (if v < 0 then (v + (n : Int)).toNat else min v.toNat n) ≤ n
    by_cases hv : v < 0
    · rw [if_pos hv]; omega
    · rw [if_neg hv]; exact Nat.min_le_right _ _
theorem clip_eq (v : Int) (n d : Nat) : (if v < 0 then max (v + (n : Int)) 0 else min v (n : Int)) = ((sIx n d (some v) : Nat) : Int) := by
  show (if v < 0 then max (v + (n : Int)) 0 else min v (n : Int)) = (((if v < 0 then (v + (n : Int)).toNat else min v.toNat n) : Nat) : Int)
  by_cases hv : v < 0
  · simp only [if_pos hv]; omega
  · simp only [if_neg hv]; omega
theorem adjust_gen (lo hi : Option Int) (n : Nat) : Builtin.Slice.sliceAdjust lo hi 1 (n : Int) = (((sIx n 0 lo : Nat) : Int), ((sIx n n hi : Nat) : Int)) := by
  have h1 : ¬ ((1 : Int) < 0) := by omega
  unfold Builtin.Slice.sliceAdjust
  simp only [h1, if_false]
  refine Prod.ext ?_ ?_
  · cases lo with
    | none => rfl
    | some v => exact clip_eq v n 0
  · cases hi with
    | none => rfl
    | some v => exact clip_eq v n n
theorem places_gen (i j : Nat) : Builtin.Slice.slicePlaces (i : Int) (j : Int) 1 = j - i := by
  unfold Builtin.Slice.slicePlaces
  have h1 : (1 : Int) > 0 := by omega
  simp only [h1, if_true, Int.ediv_one]
  split <;> omega
theorem slicePart_ {v : Value} {o : Option Int} {Q : Option Int → Shared → Prop} (p : IsPart v o) (h : Q o s) : wpAny (model prog w) A (Builtin.Slice.slicePartIndex v) Q E s := by
  cases p with
  | none => exact slicePart_none h
  | int i t => exact slicePart_int h
theorem sliceApplied_gen {sl : Addr} {vl vu : Value} {lo hi : Option Int} {n : Nat} {Q : Int × Int × Nat → Shared → Prop} (hs : s.heap.IsSliceOf sl vl vu .none) (pl : IsPart vl lo) (pu : IsPart vu hi)
    (h : Q (((sIx n 0 lo : Nat) : Int), 1, sIx n n hi - sIx n 0 lo) s) : wpAny (model prog w) A (Builtin.Slice.sliceApplied (.ref sl) (pure (n : Int))) Q E s := by
  obtain ⟨os, hos, hcs, hds⟩ := id hs
  unfold Builtin.Slice.sliceApplied Builtin.Slice.sliceFields
  refine wpAny_bind (wpAny_bind (wpAny_field hos hds (x := vl) rfl (wpAny_bind (wpAny_field hos hds (x := vu) rfl (wpAny_bind (wpAny_field hos hds (x := .none) rfl (wpAny_pure ?_)))))))
  refine wpAny_bind (slicePart_none ?_)
  show wpAny _ _ (if ((1 : Int) == 0) = true then _ else _) _ _ s
  rw [if_neg (by decide)]
  refine wpAny_bind (slicePart_ pl (wpAny_bind (slicePart_ pu (wpAny_bind (wpAny_pure ?_)))))
  show wpAny _ _ (match Builtin.Slice.sliceAdjust lo hi 1 (n : Int) with | (lo, hi) => pure (lo, (1 : Int), Builtin.Slice.slicePlaces lo hi 1)) _ _ s
  rw [adjust_gen lo hi n]
  show wpAny _ _ (pure (((sIx n 0 lo : Nat) : Int), (1 : Int), Builtin.Slice.slicePlaces ((sIx n 0 lo : Nat) : Int) ((sIx n n hi : Nat) : Int) 1)) _ _ s
  rw [places_gen]
  exact wpAny_pure h
theorem pick_gen (xs : Array Value) (i k : Nat) : ((List.range k).filterMap fun (m : Nat) => xs[((i : Int) + (m : Int) * 1).toNat]?).toArray = ((xs.toList.drop i).take k).toArray := by
  have e : (fun (m : Nat) => xs[((i : Int) + (m : Int) * 1).toNat]?) = fun m => xs[i + m]? := by
    funext m
    have : ((i : Int) + (m : Int) * 1).toNat = i + m := by omega
    rw [this]
  rw [e]
  have := pick_run xs i k
  rw [List.filterMap_map] at this
  have e2 : ((fun x => xs[x]?) ∘ fun x => i + x) = fun m => xs[i + m]? := rfl
  rw [e2] at this
  rw [this]
theorem getItem_tuple_cut {t sl : Addr} {items : Array Value} {vl vu : Value} {lo hi : Option Int} {Q : Value → Shared → Prop} (ht : IsTup s.heap t items) (hs : s.heap.IsSliceOf sl vl vu .none) (pl : IsPart vl lo) (pu : IsPart vu hi)
    (hw : ¬ (sIx items.size 0 lo = 0 ∧ sIx items.size items.size hi = items.size))
    (h : Q (.ref s.heap.objs.size) { s with heap := s.heap.push { cls := .type "tuple", data := .seq ((items.toList.drop (sIx items.size 0 lo)).take (sIx items.size items.size hi - sIx items.size 0 lo)).toArray } })
    (hsz : items.size ≤ sizeLine) : wpAny (model prog w) A (getItem (.ref t) (.ref sl)) Q E s := by
  have htake : sizeOk (.seq ((items.toList.drop (sIx items.size 0 lo)).take (sIx items.size items.size hi - sIx items.size 0 lo)).toArray) := by
    show ((items.toList.drop (sIx items.size 0 lo)).take (sIx items.size items.size hi - sIx items.size 0 lo)).toArray.size ≤ sizeLine
    rw [List.size_toArray, List.length_take, List.length_drop, Array.length_toList]
    omega
  have hj : sIx items.size items.size hi ≤ items.size := sIx_le _ _ (Nat.le_refl _) hi
  obtain ⟨os, hos, hcs, hds⟩ := id hs
  have hTs : s.TypeIs (.ref sl) "slice" := ⟨os, hos, hcs⟩
  unfold getItem
  try with_reducible refine wpAny_holding ?_
  first | refine wpAny_bind (wpAny_pure ?_) | skip
  refine wpAny_bind (wpAny_sequenceKey ht.typeIs (by decide) ?_)
  refine wpAny_bind (wpAny_callSpecial?_slot (name := Str.ofString "__getitem__") ht.typeIs PyProof.Rows.slot_tuple_getitem
    (wpAny_call_entry PyProof.Rows.slot_tuple_getitem ht.typeIs entry_tuple_getitem ?_ (args_tuple_getitem _ _)))
  show wpAny _ _ (Builtin.Tuple.tupleItemsOf (.ref t) >>= _) _ _ s
  refine wpAny_bind (tupleItemsOf_ ht ?_)
  refine wpAny_bind (wpAny_typeOf hTs ?_)
  rw [if_pos (by decide)]
  refine wpAny_bind (sliceApplied_gen hs pl pu ?_)
  have hno : ¬ ((((sIx items.size 0 lo : Nat) : Int) == 0 && (1 : Int) == 1 && (sIx items.size items.size hi - sIx items.size 0 lo) == items.size) = true) := by
    intro q
    rw [Bool.and_eq_true, Bool.and_eq_true] at q
    have q1 : ((sIx items.size 0 lo : Nat) : Int) = 0 := eq_of_beq q.1.1
    have q2 : sIx items.size items.size hi - sIx items.size 0 lo = items.size := eq_of_beq q.2
    exact hw ⟨by omega, by omega⟩
  show wpAny _ _ (if (((sIx items.size 0 lo : Nat) : Int) == 0 && (1 : Int) == 1 && (sIx items.size items.size hi - sIx items.size 0 lo) == items.size) = true then _ else _) _ _ s
  rw [if_neg hno, pick_gen]
  first
    | exact wpAny_bind (m := Builtin.Tuple.tupleExact _) (wpAny_newObj_type (wpAny_pure ⟨_, rfl, wpAny_pure h⟩) htake)
    | exact wpAny_bind (m := Builtin.Tuple.tupleExact _) (wpAny_newObj_type (wpAny_bind (wpAny_pure (wpAny_pure ⟨_, rfl, wpAny_pure h⟩))) htake)
    | exact wpAny_bind (wpAny_bind (m := Builtin.Tuple.tupleExact _) (wpAny_newObj_type (wpAny_pure (wpAny_pure ⟨_, rfl, wpAny_pure h⟩)) htake))
    | exact wpAny_bind (wpAny_bind (m := Builtin.Tuple.tupleExact _) (wpAny_newObj_type (wpAny_pure ⟨_, rfl, wpAny_pure h⟩) htake))
end
end HT
namespace L2
open PySem PySem.Spec PyProof.Rows
/-! ### the parts of a slice -/
abbrev TO := St → Hp → (Option Int → Hp → Prop) → Prop
/-- a slice's part (left out, or an int) -/
def PO (X : Cx) (e : Option Expr) (t : TO) : Prop :=
  ∀ (pins : List (Addr × Obj)) (s : Shared) (σ : St) (H : Hp) (Q : Option Int → Hp → Prop), Inv X pins σ H s → t σ H Q →
    wpAny (model X.prog X.w) X.A (evalPart e X.env) (fun u s' => ∃ o H', Inv X pins σ H' s' ∧ IsPart u o ∧ Q o H') X.xe s
def tNoPart : TO := fun _ H Q => Q none H
def tPart (t : TE) : TO := fun σ H Q => t σ H fun x H1 => ∃ i, x = .int i ∧ Q (some i) H1
theorem intsAre_of {ns : List Int} : ∀ {us : List Value}, Vals (ns.map V.int) us → IntsAre us ns := by
  induction ns with
  | nil => intro us r; rw [List.map_nil] at r; cases r; exact .nil
  | cons n ns ih =>
    intro us r
    rw [List.map_cons] at r
    cases r with
    | cons r1 r2 =>
      obtain ⟨t, e⟩ := r1
      subst e
      exact .cons n t (ih r2)
section
variable {X : Cx} {e : Expr} {te : TE} {lo hi : Option Expr} {tl th : TO} {pos p2 : Pos}
theorem po_none : PO X none tNoPart := by
  intro pins s σ H Q I h
  rw [evalPart_none]
  exact wpAny_pure ⟨none, H, I, .none, h⟩
theorem po_some (h : PE X e te) : PO X (some e) (tPart te) := by
  intro pins s σ H Q I hw
  rw [evalPart_some]
  refine thn (h pins s σ H _ I hw) fun u s1 ⟨x, H1, I1, r1, q1⟩ => ?_
  obtain ⟨i, rfl, q⟩ := q1
  obtain ⟨t, rfl⟩ := r1
  exact ⟨some i, H1, I1, .int i t, q⟩
/-- what a slice of a value is, by values: the slice object stands at sl -/
def SlR (X : Cx) (r : V → Option Int → Option Int → Hp → VK → Prop) : Prop :=
  ∀ (pins : List (Addr × Obj)) (s : Shared) (σ : St) (H : Hp) (x : V) (v vl vu : Value) (lo hi : Option Int) (sl : Addr) (Q : VK), Inv X pins σ H s → RelV x v → s.heap.IsSliceOf sl vl vu .none → IsPart vl lo → IsPart vu hi → r x lo hi H Q →
    ∃ T id, typeLookup (.type T) "__getitem__" = pure (some (.builtin id)) ∧ s.TypeIs v T ∧ wpAny (model X.prog X.w) X.A (getItem v (.ref sl)) (EP X pins σ Q) X.xe s
theorem SlR.or {r r' : V → Option Int → Option Int → Hp → VK → Prop} (h : SlR X r) (h' : SlR X r') : SlR X (fun x lo hi H Q => r x lo hi H Q ∨ r' x lo hi H Q) := by
  intro pins s σ H x v vl vu lo hi sl Q I rx hs pl pu q
  rcases q with q | q
  · exact h pins s σ H x v vl vu lo hi sl Q I rx hs pl pu q
  · exact h' pins s σ H x v vl vu lo hi sl Q I rx hs pl pu q
def tSl (r : V → Option Int → Option Int → Hp → VK → Prop) (te : TE) (tl th : TO) : TE := fun σ H Q => te σ H fun x H1 => tl σ H1 fun l H2 => th σ H2 fun u H3 => r x l u H3 Q
/-- a[lo:hi], any a -/
theorem pe_slice {r : V → Option Int → Option Int → Hp → VK → Prop} (hr : SlR X r) (he : PE X e te) (hl : PO X lo tl) (hu : PO X hi th) : PE X (.Subscript e (.Slice lo hi none p2) pos) (tSl r te tl th) := by
  intro pins s σ H Q I h
  refine Subscript_ (thn (he pins s σ H _ I h) fun v s1 ⟨x, H1, I1, r1, q1⟩ => ?_)
  refine wpAny_Slice (thn (hl pins s1 σ H1 _ I1 q1) fun vl s2 ⟨l, H2, I2, pl, q2⟩ => thn (hu pins s2 σ H2 _ I2 q2) fun vu s3 ⟨u, H3, I3, pu, q3⟩ => ?_)
  rw [evalPart_none]
  refine wpAny_pure ?_
  have I4 : Inv X pins σ H3 { s3 with heap := s3.heap.push { cls := .type "slice", data := .fields #[vl, vu, .none] } } := I3.kept (t' := s3.toks) fun b ob q => Heap.get?_push_of_some _ q
  obtain ⟨T, id, hT, ht, hg⟩ := hr pins { s3 with heap := s3.heap.push { cls := .type "slice", data := .fields #[vl, vu, .none] } } σ H3 x v vl vu l u s3.heap.objs.size Q I4 r1 (Heap.IsSliceOf.new ..) pl pu q3
  show wpAny (model X.prog X.w) X.A (subscriptTail e (.Slice lo hi none p2) v (.ref s3.heap.objs.size)) (EP X pins σ Q) X.xe { s3 with heap := s3.heap.push { cls := .type "slice", data := .fields #[vl, vu, .none] } }
  exact tail_any (ops := [.ref s3.heap.objs.size, v]) ht hT hg (by with_unfolding_all rfl)
/-- the items of xs[lo:hi] -/
def cutV (xs : List V) (lo hi : Option Int) : List V := (xs.drop (HT.sIx xs.length 0 lo)).take (HT.sIx xs.length xs.length hi - HT.sIx xs.length 0 lo)
theorem cutV_length (xs : List V) (lo hi : Option Int) : (cutV xs lo hi).length ≤ xs.length := by
  unfold cutV
  rw [List.length_take, List.length_drop]
  omega
/-- t[lo:hi], not the whole of it (the whole would be t itself) -/
def rSlT (K : PySem.W.Frag) : V → Option Int → Option Int → Hp → VK → Prop := fun x lo hi H Q => ∃ a xs, x = .ref a ∧ SqT K H a xs ∧
  ¬ (HT.sIx xs.length 0 lo = 0 ∧ HT.sIx xs.length xs.length hi = xs.length) ∧ ∀ p, H p = none → Q (.ref p) (upd H p (.tup (cutV xs lo hi)))
theorem sl_tup : SlR X (rSlT X.K) := by
  intro pins s σ H x v vl vu lo hi sl Q I rx hs pl pu h
  obtain ⟨a, xs, rfl, hx, hw, q⟩ := h
  cases rx
  obtain ⟨its, r, ht, hz⟩ := I.tuple hx
  have hlen : its.toArray.size = xs.length := by rw [List.size_toArray]; exact r.length.symm
  refine ⟨"tuple", _, PyProof.Rows.slot_tuple_getitem.lookup, ht.typeIs, ?_⟩
  refine HT.getItem_tuple_cut ht hs pl pu (by rw [hlen]; exact hw) ?_ (by rw [hlen]; exact hz)
  rw [hlen]
  refine ⟨.ref s.heap.objs.size, _, I.laid (t' := s.toks) (o := .tup (cutV xs lo hi)) (fun b ob q => Heap.get?_push_of_some _ q) (Nat.le_refl _) ?_, rfl, q _ (I.hok.fresh (Nat.le_refl _))⟩
  exact ⟨Nat.le_trans (cutV_length xs lo hi) hz, _, (r.drop (HT.sIx xs.length 0 lo)).take (HT.sIx xs.length xs.length hi - HT.sIx xs.length 0 lo), IsTup.new _ _⟩
/-- t + u, t not empty: u empty gives t itself -/
def rCatT (K : PySem.W.Frag) : R2 := fun x y H Q => ∃ a b xs ys, x = .ref a ∧ y = .ref b ∧ SqT K H a xs ∧ SqT K H b ys ∧ xs ≠ [] ∧ xs.length + ys.length ≤ sizeLine ∧
  (ys = [] → Q (.ref a) H) ∧ (ys ≠ [] → ∀ p, H p = none → Q (.ref p) (upd H p (.tup (xs ++ ys))))
theorem Vals.nil_iff {xs : List V} {us : List Value} (r : Vals xs us) : us = [] ↔ xs = [] := by
  cases r with
  | nil => simp
  | cons _ _ => simp
theorem op_catT : OpR X (binaryOp .Add) (rCatT X.K) := by
  intro pins s σ H x y v u Q I rx ry h
  obtain ⟨a, b, xs, ys, rfl, rfl, ha, hb, hx, hz, q1, q2⟩ := h
  cases rx
  cases ry
  obtain ⟨its, r1, p1, _⟩ := I.tuple ha
  obtain ⟨its2, r2, p2, _⟩ := I.tuple hb
  refine HT.cat_tup p1 p2 (fun z => hx (r1.nil_iff.mp z)) (fun z => ⟨.ref a, H, I, rfl, q1 (r2.nil_iff.mp z)⟩) (fun z => ?_) (by rw [← r1.length, ← r2.length]; exact hz)
  refine ⟨.ref s.heap.objs.size, _, I.laid (t' := s.toks) (o := .tup (xs ++ ys)) (fun b ob q => Heap.get?_push_of_some _ q) (Nat.le_refl _) ?_, rfl, q2 (fun w => z (r2.nil_iff.mpr w)) _ (I.hok.fresh (Nat.le_refl _))⟩
  exact ⟨by rw [List.length_append]; exact hz, _, r1.append r2, IsTup.new _ _⟩
end
end L2
namespace L2
open PySem PySem.Spec PyProof.Rows
/-! ### places -/
/-- the place that an index of any sign means -/
def ixN (n : Nat) (i : Int) : Option Nat := if 0 ≤ i then (if i < n then some i.toNat else none) else if -(n : Int) ≤ i then some (i + n).toNat else none
def atI {α : Type} (xs : List α) (i : Int) : Option α := (ixN xs.length i).bind fun j => xs[j]?
theorem ixN_seq {n : Nat} {i : Int} {j : Nat} (h : ixN n i = some j) : seqIndex? i n = some j ∧ j < n ∧ -(n : Int) ≤ i ∧ i < n := by
  unfold ixN at h
  by_cases h0 : 0 ≤ i
  · rw [if_pos h0] at h
    by_cases h1 : i < n
    · rw [if_pos h1] at h
      have e : i.toNat = j := Option.some.inj h
      exact ⟨by rw [seqIndex_of h0 h1, e], by omega, by omega, h1⟩
    · rw [if_neg h1] at h; cases h
  · rw [if_neg h0] at h
    by_cases h1 : -(n : Int) ≤ i
    · rw [if_pos h1] at h
      have e : (i + n).toNat = j := Option.some.inj h
      exact ⟨by rw [seqIndex_neg (by omega) h1, e], by omega, h1, by omega⟩
    · rw [if_neg h1] at h; cases h
theorem atI_get {α : Type} {xs : List α} {i : Int} {v : α} (h : atI xs i = some v) : ∃ j, seqIndex? i xs.length = some j ∧ xs[j]? = some v ∧ j < xs.length ∧ -(xs.length : Int) ≤ i ∧ i < xs.length := by
  unfold atI at h
  cases e : ixN xs.length i with
  | none => rw [e] at h; cases h
  | some j =>
    rw [e] at h
    obtain ⟨h1, h2, h3, h4⟩ := ixN_seq e
    exact ⟨j, h1, h, h2, h3, h4⟩
theorem atI_nat {α : Type} {xs : List α} {j : Nat} {v : α} (h : xs[j]? = some v) : atI xs (j : Int) = some v := by
  have hj : j < xs.length := (List.getElem?_eq_some_iff.mp h).1
  have e : ixN xs.length (j : Int) = some j := by
    unfold ixN
    rw [if_pos (by omega), if_pos (by omega)]; simp
  unfold atI; rw [e]; exact h
/-! ### what may be subscripted -/
/-- what stands as an index of a plain subscript -/
def PlainIx (b : Expr) : Prop := ∀ o i, subscripted b false o i = operate [o, i] (getItem o i)
/-- a subscript by values -/
def IxR (X : Cx) (r : R2) : Prop :=
  ∀ (value slice : Expr) (pins : List (Addr × Obj)) (s : Shared) (σ : St) (H : Hp) (x y : V) (v u : Value) (Q : VK), Inv X pins σ H s → RelV x v → RelV y u → r x y H Q →
    subscripted slice false v u = operate [v, u] (getItem v u) → wpAny (model X.prog X.w) X.A (subscriptTail value slice v u) (EP X pins σ Q) X.xe s
/-- a call of a builtin's method by values: the receiver, the arguments -/
def MtR (X : Cx) (id : String) (r : V → List V → Hp → VK → Prop) : Prop :=
  ∀ (pins : List (Addr × Obj)) (s : Shared) (σ : St) (H : Hp) (x : V) (xs : List V) (v : Value) (us : List Value) (Q : VK), Inv X pins σ H s → RelV x v → Vals xs us → r x xs H Q →
    wpAny (model X.prog X.w) X.A (call (.builtin id) (v :: us)) (EP X pins σ Q) X.xe s
section
variable {X : Cx} {a b : Expr} {ta tb : TE} {pos : Pos}
theorem IxR.or {r r' : R2} (h : IxR X r) (h' : IxR X r') : IxR X (fun x y H Q => r x y H Q ∨ r' x y H Q) := by
  intro value slice pins s σ H x y v u Q I rx ry q hs
  rcases q with q | q
  · exact h value slice pins s σ H x y v u Q I rx ry q hs
  · exact h' value slice pins s σ H x y v u Q I rx ry q hs
theorem MtR.or {id : String} {r r' : V → List V → Hp → VK → Prop} (h : MtR X id r) (h' : MtR X id r') : MtR X id (fun x xs H Q => r x xs H Q ∨ r' x xs H Q) := by
  intro pins s σ H x xs v us Q I rx rs q
  rcases q with q | q
  · exact h pins s σ H x xs v us Q I rx rs q
  · exact h' pins s σ H x xs v us Q I rx rs q
/-- a[b] -/
theorem pe_ix {r : R2} (hr : IxR X r) (ha : PE X a ta) (hb : PE X b tb) (hs : PlainIx b) : PE X (.Subscript a b pos) (tOp r ta tb) := by
  intro pins s σ H Q I h
  exact Subscript_ (binT ha hb I h fun v u s2 x y H2 I2 rx ry q => hr a b pins s2 σ H2 x y v u Q I2 rx ry q (hs _ _))
def rIxL (K : PySem.W.Frag) : R2 := fun x y H Q => ∃ p xs i v, x = .ref p ∧ y = .int i ∧ SqL K H p xs ∧ atI xs i = some v ∧ Q v H
def rIxT (K : PySem.W.Frag) : R2 := fun x y H Q => ∃ p xs i v, x = .ref p ∧ y = .int i ∧ SqT K H p xs ∧ atI xs i = some v ∧ Q v H
def rIxS : R2 := fun x y H Q => ∃ z i c, x = .str z ∧ y = .int i ∧ z.length ≤ sizeLine ∧ atI z.cps.toList i = some c ∧ Q (.str ⟨#[c]⟩) H
theorem ix_list : IxR X (rIxL X.K) := by
  intro value slice pins s σ H x y v u Q I rx ry h hs
  obtain ⟨p, xs, i, z, rfl, rfl, hq, he, q⟩ := h
  cases rx
  obtain ⟨t, rfl⟩ := ry
  obtain ⟨its, r, pl, hz⟩ := I.list hq
  obtain ⟨j, h1, h2, h3, h4, h5⟩ := atI_get he
  obtain ⟨w, ew, rw'⟩ := r.get h2
  have hl := r.length
  have hn := line63
  have fin : EP X pins σ Q w s := ⟨z, H, I, rw', q⟩
  by_cases h0 : 0 ≤ i
  · have hj : i.toNat = j := by
      rw [seqIndex_of h0 h5] at h1
      exact Option.some.inj h1
    exact item_listR pl.isList h0 (by omega) (by rw [hj]; simpa using ew) fin hs
  · have hj : (i + (its.toArray.size : Int)).toNat = j := by
      rw [seqIndex_neg (by omega) h4] at h1
      rw [List.size_toArray, ← hl]
      exact Option.some.inj h1
    exact subscriptTail_builtinR (x := w) pl.isList.typeIs slot_list_getitem.lookup
      (wpAny_getItem_list_neg (Q := fun r s' => r = w ∧ EP X pins σ Q r s') pl.isList (by omega) (by rw [List.size_toArray] <;> omega) (by omega) (by rw [hj]; simpa using ew) ⟨rfl, fin⟩) hs
theorem ix_tup : IxR X (rIxT X.K) := by
  intro value slice pins s σ H x y v u Q I rx ry h hs
  obtain ⟨p, xs, i, z, rfl, rfl, hq, he, q⟩ := h
  cases rx
  obtain ⟨t, rfl⟩ := ry
  obtain ⟨its, r, pl, hz⟩ := I.tuple hq
  obtain ⟨j, h1, h2, h3, h4, h5⟩ := atI_get he
  obtain ⟨w, ew, rw'⟩ := r.get h2
  have hl := r.length
  have hn := line63
  have fin : EP X pins σ Q w s := ⟨z, H, I, rw', q⟩
  exact subscriptTail_builtinR (x := w) pl.typeIs slot_tuple_getitem.lookup
    (getItem_tuple (j := j) (Q := fun r s' => r = w ∧ EP X pins σ Q r s') pl (by omega) (by omega) (by rw [List.size_toArray, ← hl]; exact h1) (by simpa using ew) ⟨rfl, fin⟩) hs
theorem ix_str : IxR X rIxS := by
  intro value slice pins s σ H x y v u Q I rx ry h hs
  obtain ⟨z, i, c, rfl, rfl, hz, he, q⟩ := h
  obtain ⟨t, rfl⟩ := rx
  obtain ⟨t', rfl⟩ := ry
  obtain ⟨j, h1, h2, h3, h4, h5⟩ := atI_get he
  have hl : z.cps.toList.length = z.length := by simp [Str.length]
  rw [hl] at h1 h4 h5
  have hn := line63
  exact tail_any (typeIs_str s z t) slot_str_getitem.lookup (getItem_str (c := c) (by
    have e1 : decide (i < -(2 ^ 63 : Int)) = false := decide_eq_false (by omega)
    have e2 : decide (i ≥ 2 ^ 63) = false := decide_eq_false (by omega)
    rw [e1, e2, Bool.or_false]) (by rw [h1]; simpa using h2) ⟨.str ⟨#[c]⟩, H, I.tok _, ⟨_, rfl⟩, q⟩) hs
/-- list, tuple or str -/
def rIx (K : PySem.W.Frag) : R2 := fun x y H Q => rIxL K x y H Q ∨ rIxT K x y H Q ∨ rIxS x y H Q
theorem ix_seq : IxR X (rIx X.K) := ix_list.or (ix_tup.or ix_str)
theorem Inv.lst {pins : List (Addr × Obj)} {σ : St} {H : Hp} {s : Shared} {p : Addr} {xs : List V} (I : Inv X pins σ H s) (h : H p = some (.lst xs)) :
    ∃ (its : List Value) (n : Nat), Vals xs its ∧ s.heap.get? p = some { cls := .type "list", data := .seq its.toArray n } ∧ xs.length ≤ sizeLine := by
  obtain ⟨z, its, n, r, e⟩ := I.hok p _ h
  exact ⟨its, n, r, e, z⟩
/-! ### slices -/
theorem slice_bounds (lo hi : Option Int) (n : Nat) : (sliceBounds lo hi none n).1 = ((HT.sIx n 0 lo : Nat) : Int) ∧ (sliceBounds lo hi none n).2.1 = ((HT.sIx n n hi : Nat) : Int) ∧ (sliceBounds lo hi none n).2.2 = 1 := by
  refine ⟨?_, ?_, rfl⟩
  · cases lo with
    | none => simp [sliceBounds, HT.sIx]
    | some i =>
      simp only [sliceBounds, HT.sIx, Option.getD_none, show (1 : Int) > 0 by decide, if_true]
      by_cases h : i < 0
      · simp only [h, if_true] <;> omega
      · simp only [h, if_false] <;> omega
  · cases hi with
    | none => simp [sliceBounds, HT.sIx]
    | some i =>
      simp only [sliceBounds, HT.sIx, Option.getD_none, show (1 : Int) > 0 by decide, if_true]
      by_cases h : i < 0
      · simp only [h, if_true] <;> omega
      · simp only [h, if_false] <;> omega
theorem slicePick_cut (its : List Value) (lo hi : Option Int) : slicePick its.toArray lo hi none = ((its.drop (HT.sIx its.length 0 lo)).take (HT.sIx its.length its.length hi - HT.sIx its.length 0 lo)).toArray := by
  obtain ⟨h1, h2, h3⟩ := slice_bounds lo hi its.toArray.size
  unfold slicePick
  rw [h1, h2, h3]
  simp only [sliceRange_one, pick_run, List.size_toArray] <;> rfl
/-- xs[lo:hi] of a list: a new list -/
def rSlL (K : PySem.W.Frag) : V → Option Int → Option Int → Hp → VK → Prop := fun x lo hi H Q => ∃ a xs, x = .ref a ∧ SqL K H a xs ∧ ∀ p, H p = none → Q (.ref p) (upd H p (.lst (cutV xs lo hi)))
theorem sl_list : SlR X (rSlL X.K) := by
  intro pins s σ H x v vl vu lo hi sl Q I rx hs pl pu h
  obtain ⟨a, xs, rfl, hx, q⟩ := h
  cases rx
  obtain ⟨its, r, ht, hz⟩ := I.list hx
  have hlen := r.length
  refine ⟨"list", _, slot_list_getitem.lookup, ht.isList.typeIs, ?_⟩
  refine wpAny_getItem_list_slice ht.isList hs pl pu .none (by simp) ?_ (by rw [List.size_toArray] <;> omega)
  rw [slicePick_cut, ← hlen]
  refine ⟨.ref s.heap.objs.size, _, I.laid (t' := s.toks) (o := .lst (cutV xs lo hi)) (fun b ob q => Heap.get?_push_of_some _ q) (Nat.le_refl _) ?_, rfl, q _ (I.hok.fresh (Nat.le_refl _))⟩
  exact ⟨Nat.le_trans (cutV_length xs lo hi) hz, _, 0, (r.drop (HT.sIx xs.length 0 lo)).take (HT.sIx xs.length xs.length hi - HT.sIx xs.length 0 lo), Heap.get?_push_size _ rfl⟩
/-! ### in, not in: flat items -/
def flatV : V → Bool
  | .non => true
  | .bl _ => true
  | .int _ => true
  | .str _ => true
  | _ => false
/-- == of flat values -/
def eqV : V → V → Bool
  | .non, .non => true
  | .bl a, .bl b => a == b
  | .bl a, .int b => (if a then 1 else 0) == b
  | .int a, .bl b => a == (if b then 1 else 0)
  | .int a, .int b => a == b
  | .str a, .str b => a == b
  | _, _ => false
theorem eqAt_V {A : Around} {s : Shared} {y x : V} {u v : Value} (ry : RelV y u) (rx : RelV x v) (fy : flatV y = true) (fx : flatV x = true) : SeqAt.EqAt A s u v (eqV y x) := by
  cases y with
  | non =>
    cases ry
    cases x with
    | non => cases rx; exact SeqAt.EqAt.same _
    | bl b => cases rx; exact SeqAt.EqAt.none_bool b
    | int b => obtain ⟨t, rfl⟩ := rx; exact SeqAt.EqAt.none_int b t
    | str b => obtain ⟨t, rfl⟩ := rx; exact SeqAt.EqAt.none_str b t
    | _ => exact absurd (show false = true from fx) Bool.false_ne_true
  | bl a =>
    cases ry
    cases x with
    | non => cases rx; exact SeqAt.EqAt.bool_none a
    | bl b => cases rx; exact SeqAt.EqAt.bool_bool a b
    | int b => obtain ⟨t, rfl⟩ := rx; exact SeqAt.EqAt.bool_int a b t
    | str b => obtain ⟨t, rfl⟩ := rx; exact SeqAt.EqAt.bool_str a b t
    | _ => exact absurd (show false = true from fx) Bool.false_ne_true
  | int a =>
    obtain ⟨t', rfl⟩ := ry
    cases x with
    | non => cases rx; exact SeqAt.EqAt.int_none a t'
    | bl b => cases rx; exact SeqAt.EqAt.int_bool a t' b
    | int b => obtain ⟨t, rfl⟩ := rx; exact SeqAt.EqAt.int_int a t' b t
    | str b => obtain ⟨t, rfl⟩ := rx; exact SeqAt.EqAt.int_str a t' b t
    | _ => exact absurd (show false = true from fx) Bool.false_ne_true
  | str a =>
    obtain ⟨t', rfl⟩ := ry
    cases x with
    | non => cases rx; exact SeqAt.EqAt.str_none a t'
    | bl b => cases rx; exact SeqAt.EqAt.str_bool a t' b
    | int b => obtain ⟨t, rfl⟩ := rx; exact SeqAt.EqAt.str_int a t' b t
    | str b => obtain ⟨t, rfl⟩ := rx; exact SeqAt.EqAt.str_str a t' b t
    | _ => exact absurd (show false = true from fx) Bool.false_ne_true
  | _ => exact absurd (show false = true from fy) Bool.false_ne_true
/-- the items' answers, read off the values (a value's own answer does not lean on its token) -/
def eqU (x : V) (u : Value) : Bool := match u with
  | .none => eqV .non x
  | .bool b => eqV (.bl b) x
  | .int i _ => eqV (.int i) x
  | .str z _ => eqV (.str z) x
  | _ => false
theorem eqU_of {x y : V} {u : Value} (r : RelV y u) (f : flatV y = true) : eqU x u = eqV y x := by
  cases y with
  | non => cases r; rfl
  | bl b => cases r; rfl
  | int i => obtain ⟨t, rfl⟩ := r; rfl
  | str z => obtain ⟨t, rfl⟩ := r; rfl
  | _ => exact absurd (show false = true from f) Bool.false_ne_true
theorem mem_eqAt {A : Around} {s : Shared} {x : V} {v : Value} (rx : RelV x v) (fx : flatV x = true) : ∀ {xs : List V} {us : List Value}, Vals xs us → xs.all flatV = true → ∀ u ∈ us, SeqAt.EqAt A s u v (eqU x u)
  | _, _, .nil, _ => fun u hu => by cases hu
  | y :: xs, u :: us, .cons r t, f => fun u' hu => by
    rw [List.all_cons, Bool.and_eq_true] at f
    rcases List.mem_cons.mp hu with rfl | hu
    · rw [eqU_of r f.1]; exact eqAt_V r rx f.1 fx
    · exact mem_eqAt rx fx t f.2 u' hu
theorem CallR.or {f : Value} {r r' : List V → Hp → VK → Prop} (h : CallR X f r) (h' : CallR X f r') : CallR X f (fun xs H Q => r xs H Q ∨ r' xs H Q) := by
  intro pins s σ H xs us Q I rs q
  rcases q with q | q
  · exact h pins s σ H xs us Q I rs q
  · exact h' pins s σ H xs us Q I rs q
/-! ### the call of a builtin's method: o.m(..) -/
/-- the value is of that builtin type -/
def tyV (K : PySem.W.Frag) (T : String) (x : V) (H : Hp) : Prop := match x with
  | .str _ => T = "str"
  | .int _ => T = "int"
  | .ref p => (T = "list" ∧ ∃ xs, SqL K H p xs) ∨ (T = "tuple" ∧ ∃ o, K.lookup p = some o ∧ o.cls = .type "tuple" ∧ o.dict = none) ∨
      (T = "dict" ∧ ((∃ kvs, H p = some (.dK kvs)) ∨ ∃ kvs, H p = some (.dT kvs))) ∨ (T = "set" ∧ ∃ S n, H p = some (.set S n))
  | _ => False
theorem tyV_is {pins : List (Addr × Obj)} {σ : St} {H : Hp} {s : Shared} {T : String} {x : V} {v : Value} (I : Inv X pins σ H s) (r : RelV x v) (ty : tyV X.K T x H) :
    s.TypeIs v T ∧ ∀ a, v = .ref a → ∃ ob, s.heap.get? a = some ob ∧ ob.dict = none := by
  cases x with
  | str z =>
    obtain ⟨t, rfl⟩ := r
    cases (show T = "str" from ty)
    exact ⟨typeIs_str s z t, fun _ e => nomatch e⟩
  | int i =>
    obtain ⟨t, rfl⟩ := r
    cases (show T = "int" from ty)
    exact ⟨typeIs_int s i t, fun _ e => nomatch e⟩
  | ref p =>
    cases r
    rcases ty with ⟨rfl, xs, hq⟩ | ⟨rfl, o, hk, hc, hd⟩ | ⟨rfl, hk⟩ | ⟨rfl, S, n, hk⟩
    · obtain ⟨its, _, pl, _⟩ := I.list hq
      refine ⟨pl.isList.typeIs, fun a e => ?_⟩
      cases e
      obtain ⟨o, n, e, c, hd, _⟩ := pl
      exact ⟨o, e, hd⟩
    · refine ⟨⟨o, I.kIn p o hk, hc⟩, fun a e => ?_⟩
      cases e
      exact ⟨o, I.kIn _ o hk, hd⟩
    · have z : ∃ o, s.heap.get? p = some o ∧ o.ExactDict := by
        rcases hk with ⟨kvs, hk⟩ | ⟨kvs, hk⟩
        · obtain ⟨_, _, _, _, o, _, _, e, ex, _⟩ := I.hok p _ hk
          exact ⟨o, e, ex⟩
        · obtain ⟨_, _, _, _, o, _, _, e, ex, _⟩ := I.hok p _ hk
          exact ⟨o, e, ex⟩
      obtain ⟨o, e, ex⟩ := z
      refine ⟨⟨o, e, ex.1⟩, fun a e2 => ?_⟩
      cases e2
      exact ⟨o, e, ex.2.1⟩
    · obtain ⟨o, _, _, _, e, ex, _⟩ := I.hok p _ hk
      refine ⟨⟨o, e, ex.1⟩, fun a e2 => ?_⟩
      cases e2
      exact ⟨o, e, ex.2.1⟩
  | _ => exact False.elim ty
def tBM0 (K : PySem.W.Frag) (T : String) (r : V → List V → Hp → VK → Prop) (to : TE) : TE := fun σ H Q => to σ H fun x H1 => tyV K T x H1 ∧ r x [] H1 Q
def tBM (K : PySem.W.Frag) (T : String) (r : V → List V → Hp → VK → Prop) (to : TE) (t : TA) : TE := fun σ H Q => to σ H fun x H1 => tyV K T x H1 ∧ t σ H1 fun xs H2 => r x xs H2 Q
variable {o e : Expr} {es : List Expr} {to : TE} {t : TA} {name : Str} {apos cpos : Pos} {T id : String} {r : V → List V → Hp → VK → Prop}
theorem pe_bm0 (pa : PlainAttrs T) (slot : Slot T name id) (hty : typeOf (.builtin id) = pure (.type "method_descriptor")) (hm : MtR X id r) (ho : PE X o to)
    (hbase : attributeBase o name X.env (eval o X.env) = eval o X.env := by rfl) (hline : (apos.endLine == cpos.line) = true := by rfl) : PE X (.Call (.Attribute o name apos) [] [] cpos) (tBM0 X.K T r to) := by
  intro pins s σ H Q I h
  refine wpAny_Call_method0_late hbase hline (thn (ho pins s σ H _ I h) fun v s1 ⟨x, H1, I1, r1, ty, q1⟩ => ?_)
  obtain ⟨h1, h2⟩ := tyV_is I1 r1 ty
  exact ⟨T, id, pa, slot, hty, h1, h2, Calls.callWith_builtin rfl (PySem.evalArgs_none (hm pins s1 σ H1 x [] v [] Q I1 r1 .nil q1))⟩
theorem pe_bm (pa : PlainAttrs T) (slot : Slot T name id) (hty : typeOf (.builtin id) = pure (.type "method_descriptor")) (hm : MtR X id r) (ho : PE X o to) (ha : PA X (e :: es) t)
    (hbase : attributeBase o name X.env (eval o X.env) = eval o X.env := by rfl)
    (hfew : ((backTo cpos (starEach (e :: es) X.env)).all (fun x => !x.1) && (backToKw cpos (keywordEach [] X.env)).all (fun x => x.1.isSome)
      && decide ((e :: es).length + ([] : List Keyword).length + (if ([] : List Keyword).isEmpty then 0 else 1) < 30)) = true := by rfl)
    (hline : (apos.endLine == cpos.line) = true := by rfl) (hs : starEach (e :: es) X.env = (false, eval e X.env) :: starEach es X.env := by rfl) (hplain : (backTo cpos (starEach es X.env)).any (·.1) = false := by rfl) :
    PE X (.Call (.Attribute o name apos) (e :: es) [] cpos) (tBM X.K T r to t) := by
  intro pins s σ H Q I h
  refine wpAny_Call_method_late hbase hfew hline rfl (thn (ho pins s σ H _ I h) fun v s1 ⟨x, H1, I1, r1, ty, q1⟩ => ?_)
  obtain ⟨h1, h2⟩ := tyV_is I1 r1 ty
  refine ⟨T, id, pa, slot, hty, h1, h2, ?_⟩
  have hA := ha cpos pins s1 σ H1 _ I1 q1
  rw [hs] at hA ⊢
  refine Calls.callWith_builtin (by show (false || (backTo cpos (starEach es X.env)).any (·.1)) = false; rw [hplain] <;> rfl) (Calls.evalArgs_plain ?_)
  exact thn hA fun us s2 ⟨vs, H2, I2, r2, q2⟩ => hm pins s2 σ H2 x vs v us Q I2 r1 r2 q2
/- xs.append(e), list.index on a module's tuple .. are MtR facts of 06m -/
end
end L2
namespace L2
open PySem PySem.Spec PyProof.Rows
def MtM (X : Cx) (id : String) (r : V → List V → Hp → VK → Prop) : Prop :=
  ∀ (pins : List (Addr × Obj)) (s : Shared) (σ : St) (H : Hp) (x : V) (xs : List V) (v : Value) (us : List Value) (Q : VK), Inv X pins σ H s → RelV x v → Vals xs us → r x xs H Q →
    wpAny (model X.prog X.w) X.A (call (.builtin id) (v :: us)) (EP X pins σ Q) X.xe s
/-! ### lists of values -/
theorem Vals.one : ∀ {x : V} {us : List Value}, Vals [x] us → ∃ u, us = [u] ∧ RelV x u
  | _, _, .cons r .nil => ⟨_, rfl, r⟩
theorem Vals.two : ∀ {x y : V} {us : List Value}, Vals [x, y] us → ∃ u v, us = [u, v] ∧ RelV x u ∧ RelV y v
  | _, _, _, .cons r (.cons q .nil) => ⟨_, _, rfl, r, q⟩
theorem Vals.zero : ∀ {us : List Value}, Vals [] us → us = []
  | _, .nil => rfl
theorem Vals.dropLast {xs : List V} {us : List Value} (h : Vals xs us) : Vals xs.dropLast us.dropLast := by
  induction h with
  | nil => exact .nil
  | cons r t ih =>
    cases t with
    | nil => exact .nil
    | cons q t' => exact .cons r ih
theorem Vals.reverse {xs : List V} {us : List Value} (h : Vals xs us) : Vals xs.reverse us.reverse := by
  induction h with
  | nil => exact .nil
  | cons r t ih => rw [List.reverse_cons, List.reverse_cons]; exact Vals.append ih (.cons r .nil)
theorem Vals.rep {xs : List V} {us : List Value} (h : Vals xs us) : ∀ k : Nat, Vals (List.replicate k xs).flatten (List.replicate k us).flatten
  | 0 => .nil
  | k + 1 => by
    rw [List.replicate_succ, List.replicate_succ, List.flatten_cons, List.flatten_cons]
    exact Vals.append h (Vals.rep h k)
section
variable {X : Cx} {pins : List (Addr × Obj)} {σ : St} {H : Hp} {s : Shared} {l b : Addr} {xs ys zs : List V}
/-! ### the two steps: a tracked list is rewritten, a new list is laid -/
theorem Inv.lset {its its' : List Value} {n : Nat} {f : Array Value → Array Value} {t' : Nat} (I : Inv X pins σ H s) (hH : H l = some (.lst xs))
    (e : s.heap.get? l = some { cls := .type "list", data := .seq its.toArray n }) (hf : f its.toArray = its'.toArray) (hv : Vals ys its') (hz : ys.length ≤ sizeLine) :
    Inv X pins σ (upd H l (.lst ys)) { s with heap := s.heap.update l (Obj.mapSeq f), toks := t' } := by
  have q := PySem.IsL.update e f
  rw [hf] at q
  refine I.write (x := l) (e := l) (by rw [hH]; exact trivial) (.inl rfl) (fun b' u hb hu => (Heap.get?_update_other s.heap (Obj.mapSeq f) (Ne.symm hb)).trans hu) ⟨_, q⟩ ?_
  exact ⟨hz, its', _, hv, q⟩
theorem Inv.lnew {its : List Value} {t' : Nat} (I : Inv X pins σ H s) (hv : Vals ys its) (hz : ys.length ≤ sizeLine) :
    Inv X pins σ (upd H s.heap.objs.size (.lst ys)) { s with heap := s.heap.push { cls := .type "list", data := .seq its.toArray }, toks := t' } :=
  I.laid (fun _ _ q => Heap.get?_push_of_some _ q) (Nat.le_refl _) ⟨hz, its, 0, hv, Heap.get?_push_size _ rfl⟩
theorem Inv.fresh (I : Inv X pins σ H s) : H s.heap.objs.size = none := I.hok.fresh (Nat.le_refl _)
theorem Inv.lstM (I : Inv X pins σ H s) (hH : H l = some (.lst xs)) : xs.length ≤ sizeLine ∧ ∃ (its : List Value) (n : Nat), Vals xs its ∧ xs.length = its.length ∧ s.heap.get? l = some { cls := .type "list", data := .seq its.toArray n } := by
  obtain ⟨z, its, n, r, e⟩ := I.hok l _ hH
  exact ⟨z, its, n, r, r.length, e⟩
theorem notLongL {n : Nat} (h : n ≤ sizeLine) : Builtin.List.listTooLong n = false := by
  unfold Builtin.List.listTooLong
  exact decide_eq_false (by omega)
end
section
variable {X : Cx}
/-! ### methods -/
def rAppend : V → List V → Hp → VK → Prop := fun x vs H Q => ∃ l xs y, x = .ref l ∧ vs = [y] ∧ H l = some (.lst xs) ∧ xs.length < sizeLine ∧ Q .non (upd H l (.lst (xs ++ [y])))
theorem mt_append : MtM X "list.append" rAppend := by
  intro pins s σ H x vs v us Q I rx rv h
  obtain ⟨l, xs, y, rfl, rfl, hH, hz, q⟩ := h
  cases rx
  obtain ⟨u, rfl, ru⟩ := rv.one
  obtain ⟨z, its, n, r, hl, e⟩ := I.lstM hH
  refine call_meets F.slot_list_append ⟨_, e, rfl⟩ F.entry_list_append (F.args_list_append_2 _ _) (PySem.list_append l its.toArray n u (by rw [List.size_toArray]; omega)) ⟨e, ?_⟩
  refine ⟨.non, _, I.lset (its' := its ++ [u]) hH e (by simp) (r.append (.cons ru .nil)) ?_, rfl, q⟩
  rw [List.length_append, List.length_singleton]
  omega
def rExtend : V → List V → Hp → VK → Prop := fun x vs H Q => ∃ l b xs zs, x = .ref l ∧ vs = [.ref b] ∧ H l = some (.lst xs) ∧ H b = some (.lst zs) ∧ xs.length + zs.length ≤ sizeLine ∧ Q .non (upd H l (.lst (xs ++ zs)))
theorem mt_extend : MtM X "list.extend" rExtend := by
  intro pins s σ H x vs v us Q I rx rv h
  obtain ⟨l, b, xs, zs, rfl, rfl, hH, hB, hz, q⟩ := h
  cases rx
  obtain ⟨u, rfl, ru⟩ := rv.one
  cases ru
  obtain ⟨z, its, n, r, hl, e⟩ := I.lstM hH
  obtain ⟨z2, its2, n2, r2, hl2, e2⟩ := I.lstM hB
  have hsz : its.toArray.size + its2.toArray.size ≤ sizeLine := by rw [List.size_toArray, List.size_toArray]; omega
  have hlong : ¬ (!its.toArray.isEmpty && Builtin.List.listTooLong (its.toArray.size + its2.toArray.size)) = true := by
    rw [notLongL hsz, Bool.and_false]
    exact Bool.false_ne_true
  refine call_meets F.slot_list_extend ⟨_, e, rfl⟩ F.entry_list_extend (F.args_list_extend_2 _ _)
    (AutoSeq1.list_extend_list_list_0 l its.toArray n b its2.toArray n2 hlong (by rw [List.size_toArray]; omega) (by omega)) ⟨e, e2, ?_⟩
  refine ⟨.non, _, I.lset (its' := its ++ its2) hH e (by simp) (r.append r2) ?_, rfl, q⟩
  rw [List.length_append]
  omega
def rClear : V → List V → Hp → VK → Prop := fun x vs H Q => ∃ l xs, x = .ref l ∧ vs = [] ∧ H l = some (.lst xs) ∧ Q .non (upd H l (.lst []))
theorem mt_clear : MtM X "list.clear" rClear := by
  intro pins s σ H x vs v us Q I rx rv h
  obtain ⟨l, xs, rfl, rfl, hH, q⟩ := h
  cases rx
  have hus := rv.zero
  subst hus
  obtain ⟨z, its, n, r, hl, e⟩ := I.lstM hH
  refine call_meets F.slot_list_clear ⟨_, e, rfl⟩ F.entry_list_clear (F.args_list_clear_1 _) (AutoSeq1.list_clear_list_0 l its.toArray n (by rw [List.size_toArray]; omega)) ⟨e, ?_⟩
  exact ⟨.non, _, I.lset (its' := []) (ys := []) hH e rfl .nil (Nat.zero_le _), rfl, q⟩
end
/-! ### xs[a:b] = ys -/
section
variable {prog : Program} {w : World} {A : Around} {E : Value → Shared → Prop} {s : Shared}
end
section
variable {X : Cx}
end
end L2
namespace Att
open PySem PySem.W PySem.Calls PyProof.Rows
/-! ### the script -/
theorem ints_of_wellAll {P : Params} {h : Heap} : ∀ (ns : List Int) (vs : List Value), WellAll P h vs (ns.map WData.int) → IntsAre vs ns := by
  intro ns
  induction ns with
  | nil =>
    intro vs w
    rw [List.map_nil] at w
    cases w
    exact .nil
  | cons n ns ih =>
    intro vs w
    rw [List.map_cons] at w
    cases w with
    | cons a b =>
      cases a
      exact .cons _ _ (ih _ b)
theorem script_of {l : OpenLaw} {n : Nat} (hn : l.most = some n) {P : Params} {h : Heap} {args : List WData} {vals : List Value}
    (hpre : l.row.toRowW.claim.pre args = true) (hwl : WellAll P h vals args) :
    ∃ a vs ns, vals = [Value.ref a] ∧ args = [WData.list (ns.map WData.int)] ∧ h.get? a = some { cls := .type "list", data := .seq vs.toArray } ∧ IntsAre vs ns ∧ ns.length ≤ n := by
  have hsh : WShape.hasAll [] args [.list .int] = true := (pre_splitW hpre).1
  have hc : l.pre.holds [] { args := args } = true := (pre_splitW hpre).2
  obtain ⟨d, r, rfl, h1, h2⟩ := hasAllW_cons hsh
  obtain rfl := hasAllW_nil h2
  obtain ⟨xs, rfl, h3⟩ := hasW_list h1
  obtain ⟨ns, rfl⟩ := items_int h3
  have hlen : ns.length ≤ n := by
    unfold OpenLaw.pre at hc
    have h4 : (WTm.not (.lt (.lit (.int (n : Int))) (.len (.arg 0)))).holds [] { args := [.list (ns.map .int)] } = true := by
      have h4 := (holds_andW hc).1
      rw [hn] at h4
      exact h4
    have h5 := condW_of h4 (w_not (w_lt w_lit (w_len_list (w_arg rfl))))
    rw [List.length_map] at h5
    refine Nat.le_of_not_lt fun q => ?_
    have q' : (n : Int) < ((ns.length : Nat) : Int) := by omega
    first
      | (rw [decide_eq_true q'] at h5; exact absurd h5 (by decide))
      | (simp at h5; omega)
  cases hwl with
  | cons w1 w2 =>
    cases w2
    cases w1 with
    | list ho hall => exact ⟨_, _, ns, rfl, rfl, ho, ints_of_wellAll ns _ hall, hlen⟩
theorem post_true (l : OpenLaw) (args : List WData) : l.row.toRowW.claim.post args (.bool true) args = true :=
  postW_of (r := l.row.toRowW) (X := (true == true))
    (show WShape.has [] (.bool true) .bool = true by first | rfl | decide | simp [WShape.has, WShape.arms, WShape.armsAll])
    (show (WTm.eq .res (.lit (.bool true))).value [] { args := args, res := some (.bool true), after := args } = some (.bool (true == true)) from w_eq_bool (w_res rfl) w_lit) rfl
/-- the same from a codeAny of the CALL (for a layer whose function contracts speak of calls) -/
theorem attach_call {l : OpenLaw} {n : Nat} {q : Program} {loose : List Str} {XP : (Str → Option Value) → Heap → Prop} {YP : World → Heap → Prop} {d : DefRec}
    (hn : l.most = some n) (hdf : d.params.defaults = [])
    (call : ∀ (w : World) (s₀ s₁ : Shared) (mg mb : Str → Option Value) (fa : Addr) (o : Obj) (pm cd doc : Value) (a : Addr) (vs : List Value) (ns : List Int),
      Ground q loose [] XP w s₀ mg mb s₁.heap → YP w s₁.heap →
      s₁.heap.get? fa = some o → o.data = .func (docDef d.name d.params d.body d.scope pm cd doc) → s₁.heap.CodeRec cd d.name → mg d.name = some (.ref fa) →
      s₁.heap.get? a = some { cls := .type "list", data := .seq vs.toArray } → IntsAre vs ns → ns.length ≤ n → s₁.gens = #[] →
      codeAny (model l.prog w) callerA (.call (.ref fa) ⟨[.ref a], []⟩) (fun r s' => r = .ok (.ret (.bool true)) ∧ OldK s₁.heap s'.heap ∧ s'.os = s₁.os ∧ AllBare s'.gens) s₁) :
    WalkO q loose XP YP l.row.toRowW d [] (fun f vs => PySem.call f vs) := by
  intro w s₀ s₁ mg mb G Y fa o pm cd doc dV kV ho hd hcd hD hmg hg args vals as hpre hlay hrd hwl hlo
  obtain rfl : dV = .none := Dflts.none hD hdf
  obtain rfl : kV = .none := Dflts.noKw hD
  obtain ⟨a, vs, ns, rfl, rfl, hobj, hints, hlen⟩ := script_of hn hpre hwl
  refine enter_call (codeAny_mono (call w s₀ s₁ mg mb fa o pm cd doc a vs ns G Y ho (fd_plain hd) hcd hmg hobj hints hlen hg) fun r s' hq => ?_)
  obtain ⟨rfl, h2, h3, h4⟩ := hq
  exact ⟨.inl ⟨.bool true, .bool true, [], rfl, fun _ => rfl, .bool true, post_true l _, fun _ => ⟨List.Pairwise.nil, fun _ hm => (nomatch hm)⟩⟩, h2, h3, h4⟩
/-! ### rules over ANY heap (no ledger) from facts about the written part K: the library's own take a ledger (News) for what they write -/
section
variable {prog : Program} {w : World} {A : Around} {E : Value → Shared → Prop} {s : Shared} {K : Frag}
def ledger (h : Heap) (L d : Addr) : List (Addr × Obj) := (List.range h.objs.size).filterMap fun a => if a = L ∨ a = d then none else (h.get? a).map fun o => (a, o)
end
end Att
namespace L2
open PySem PySem.Spec PyProof.Rows
theorem vals_ints : ∀ {vs : List Value} {ns : List Int}, IntsAre vs ns → Vals (ns.map V.int) vs
  | _, _, .nil => .nil
  | _, _, .cons n t h => .cons ⟨t, rfl⟩ (vals_ints h)
/-- nothing is tracked but the script, known to the object (or it is an object of the module) -/
def Only (H : Hp) : Prop := ∀ b, H b = none ∨ ∃ o xs, H b = some (.frz o (.lst xs))
/-- THE HEAD: the law's promise, at the heap behind the top. F, the promise of the law's def, may use that base is part of the heap (so K.In base, base.Ns mainGlobals mg stand in Mod) -/
theorem law_call {P : Program} {w : World} {K : PySem.W.Frag} {mg mb : Str → Option Value} {CX : CXT} {k : Nat} {fa a : Addr} {fd : FuncData} {x : Str} {sp : Sp} {s₁ : Shared} {vs : List Value} {ns : List Int}
    (KX : K.In s₁.heap) (hns : s₁.heap.Ns mainGlobals mg) (hb : s₁.heap.Ns builtinsNs mb) (hbb : ∀ x : Str, x ≠ "__name__" → mb x = bootBuiltins x) (hlim : s₁.heap.NoLimit) (hg : s₁.gens = #[])
    (ha : s₁.heap.get? a = some { cls := .type "list", data := .seq vs.toArray }) (hi : IntsAre vs ns) (hl : ns.length ≤ sizeLine) (hr : Room k callerA)
    (F : ∀ base : Heap, K.In base → base.Ns mainGlobals mg → FnOk P w K mg base CX k fa fd [x] sp) (hbind : ∀ (s : Shared) (u : Value), BindsTo s fd ⟨[u], []⟩ [(x, u)])
    (hsp : ∀ H : Hp, Only H → SqL K H a (ns.map V.int) → sp [.ref a] H (fun v _ => v = .bl true) fun _ _ _ => False)
    (hCX : ∀ H e s', CX [] H s₁ (fun _ _ _ => False) e s' → False) :
    codeAny (model P w) callerA (.call (.ref fa) ⟨[.ref a], []⟩) (fun r s' => r = .ok (.ret (.bool true)) ∧ OldK s₁.heap s'.heap ∧ s'.os = s₁.os ∧ AllBare s'.gens) s₁ := by
  have rv := vals_ints hi
  have lenV := hi.length
  -- from an abstract heap in which nothing but the script may be tracked
  have core : ∀ H : Hp, Only H → SqL K H a (ns.map V.int) → HOk P w H s₁.heap → (∀ b, H b ≠ none → b = a) → (H a ≠ none → K.lookup a = none) →
      codeAny (model P w) callerA (.call (.ref fa) ⟨[.ref a], []⟩) (fun r s' => r = .ok (.ret (.bool true)) ∧ OldK s₁.heap s'.heap ∧ s'.os = s₁.os ∧ AllBare s'.gens) s₁ := by
    intro H hO hS hok hA hK
    have base_of : ∀ {b : Addr} {o : Obj}, s₁.heap.get? b = some o → H b = none → (hidT s₁.heap H).get? b = some o := fun e n => hidT_get e n
    have noA : ∀ {b : Addr} {o : Obj} {es : Array DictEntry} {ep : Nat}, s₁.heap.get? b = some o → o.data = .dict es ep → H b = none := fun {b o es ep} e d => by
      cases q : H b with
      | none => rfl
      | some u =>
        have e' : b = a := hA b (by rw [q]; simp)
        subst e'
        rw [ha] at e; cases e
        have d' : Data.seq vs.toArray _ = Data.dict es ep := d
        cases d'
    have nsK : ∀ {b : Addr} {m : Str → Option Value}, s₁.heap.Ns b m → (hidT s₁.heap H).Ns b m := fun {b m} ⟨o, es, ep, e, d, r⟩ => ⟨o, es, ep, base_of e (noA e d), d, r⟩
    have hKb : K.In (hidT s₁.heap H) := fun b o e => base_of (KX b o e) (by
      cases q : H b with
      | none => rfl
      | some u =>
        have e' : b = a := hA b (by rw [q]; simp)
        subst e'
        rw [hK (by rw [q]; simp)] at e; cases e)
    have hM : Mod K mg (hidT s₁.heap H) := ⟨hKb, nsK hns, ⟨mb, nsK hb, hbb⟩, let ⟨mc, h1, h2⟩ := hlim; ⟨mc, nsK h1, h2⟩⟩
    have e0 : Env0 P w K mg (hidT s₁.heap H) callerA [] s₁ H := ⟨rfl, hM, fun b o e => of_hidT e, Nat.le_of_eq (hidT_size _ _), trivial, fun b hb => absurd (show b ∈ ([] : List Addr) from hb) (by simp), hok, .of_eq hg⟩
    refine codeAny_mono ((F _ hKb (nsK hns)).run callerA [] s₁ H ⟨[.ref a], []⟩ [.ref a] [.ref a] _ _ hr e0 (hbind s₁ (.ref a)) (.cons rfl .nil) (hsp H hO hS)) fun r s' h => ?_
    cases r with
    | error e => exact (hCX H e s' h).elim
    | ok fl =>
      cases fl with
      | next => exact False.elim h
      | brk => exact False.elim h
      | cont => exact False.elim h
      | ret u =>
        obtain ⟨v, H', os, bare, un, hok', r', q⟩ := h
        have q' : v = .bl true := q
        subst q'
        obtain rfl : u = Value.bool true := r'
        refine ⟨rfl, OldK.of_keep fun b o e => ?_, os, bare⟩
        cases q : H b with
        | none => exact un.keep b o e q (by intro z; exact absurd (show b ∈ ([] : List Addr) from z) (by simp)) (by simp)
        | some u =>
          rcases hO b with z | ⟨ob, xs, z⟩
          · rw [q] at z; cases z
          · have z2 := un.frzs b ob _ z
            obtain ⟨e1, _⟩ := hok b _ z
            obtain ⟨e2, _⟩ := hok' b _ z2
            rw [e] at e1; cases e1
            exact e2
  cases hk : K.lookup a with
  | some o =>
    -- the script is one of the module's own objects
    have e := KX a o hk
    rw [ha] at e
    cases e
    refine core (fun _ => none) (fun _ => .inl rfl) (.inr ⟨_, vs.toArray, _, hk, rfl, rfl, rfl, by rw [List.size_toArray, lenV]; exact hl, by simpa using rv⟩) (fun b u z => by have z' : (none : Option HO) = some u := z; cases z') (fun b z => absurd rfl z) fun z => absurd rfl z
  | none =>
    refine core (fun b => if b = a then some (.frz { cls := .type "list", data := .seq vs.toArray } (.lst (ns.map V.int))) else none) (fun b => ?_) (.inl (.inr ⟨{ cls := .type "list", data := .seq vs.toArray }, if_pos rfl⟩)) (fun b u z => ?_) (fun b z => ?_) fun _ => hk
    · by_cases hb : b = a
      · exact .inr ⟨_, _, if_pos hb⟩
      · exact .inl (if_neg hb)
    · by_cases hb : b = a
      · have z' := (if_pos hb).symm.trans z
        cases z'
        subst hb
        exact ⟨ha, by rw [List.length_map]; exact hl, vs, _, rv, ha⟩
      · have z' := (if_neg hb).symm.trans z
        cases z'
    · by_cases hb : b = a
      · exact hb
      · exact absurd (if_neg hb) z
end L2
namespace L2
open PySem PySem.Spec PyProof.Rows
/-- the goal that k_head leaves (case hc), from the law's promise. F gives the function object fd (K's own) once, then the promise over every base -/
theorem walk_of {l : PySem.W.OpenLaw} {n k : Nat} {q : Program} {loose : List Str} {XP : (Str → Option Value) → Heap → Prop} {YP : World → Heap → Prop} {d : DefRec} {K : Params → PySem.W.Frag} {CX : World → CXT} {sp : World → Sp} {x : Str}
    (hn : l.most = some n) (hn2 : n ≤ sizeLine) (hdf : d.params.defaults = []) (hr : Room k callerA)
    (hY : ∀ (w : World) (h : Heap), YP w h → (K w.params).In h)
    (F : ∀ (w : World) (mg : Str → Option Value) (fa : Addr) (h : Heap), (K w.params).In h → h.Ns mainGlobals mg → mg d.name = some (.ref fa) →
      ∃ fd : FuncData, (∀ (s : Shared) (u : Value), BindsTo s fd ⟨[u], []⟩ [(x, u)]) ∧
        ∀ base : Heap, (K w.params).In base → base.Ns mainGlobals mg → FnOk l.prog w (K w.params) mg base (CX w) k fa fd [x] (sp w))
    (hsp : ∀ (w : World) (H : Hp) (a : Addr) (ns : List Int), ns.length ≤ n → Only H → SqL (K w.params) H a (ns.map V.int) → sp w [.ref a] H (fun v _ => v = .bl true) fun _ _ _ => False)
    (hCX : ∀ (w : World) (H : Hp) (s : Shared) (e : Value) (s' : Shared), CX w [] H s (fun _ _ _ => False) e s' → False) :
    PySem.W.WalkO q loose XP YP l.row.toRowW d [] (fun f vs => PySem.call f vs) := by
  refine Att.attach_call hn hdf fun w s₀ s₁ mg mb fa o pm cd doc a vs ns G Y ho hd hcd hmg hobj hints hlen hg => ?_
  have KX := hY w _ Y
  obtain ⟨fd, hb, hF⟩ := F w mg fa _ KX G.T.g hmg
  exact law_call KX G.T.g G.T.b G.T.builtins G.T.nolimit hg hobj hints (Nat.le_trans hlen hn2) hr hF hb (fun H hO hS => hsp w H a ns hlen hO hS) fun H e s' => hCX w H s₁ e s'
/-- the same where the promise hangs on the written part alone: (sp := My.sp_law), no hole under a binder -/
theorem walk_ofK {l : PySem.W.OpenLaw} {n k : Nat} {q : Program} {loose : List Str} {XP : (Str → Option Value) → Heap → Prop} {YP : World → Heap → Prop} {d : DefRec} {K : Params → PySem.W.Frag} {CX : CXT} {sp : PySem.W.Frag → Sp} {x : Str}
    (hn : l.most = some n) (hn2 : n ≤ sizeLine) (hdf : d.params.defaults = []) (hr : Room k callerA)
    (hY : ∀ (w : World) (h : Heap), YP w h → (K w.params).In h)
    (F : ∀ (w : World) (mg : Str → Option Value) (fa : Addr) (h : Heap), (K w.params).In h → h.Ns mainGlobals mg → mg d.name = some (.ref fa) →
      ∃ fd : FuncData, (∀ (s : Shared) (u : Value), BindsTo s fd ⟨[u], []⟩ [(x, u)]) ∧
        ∀ base : Heap, (K w.params).In base → base.Ns mainGlobals mg → FnOk l.prog w (K w.params) mg base CX k fa fd [x] (sp (K w.params)))
    (hsp : ∀ (K : PySem.W.Frag) (H : Hp) (a : Addr) (ns : List Int), ns.length ≤ n → Only H → SqL K H a (ns.map V.int) → sp K [.ref a] H (fun v _ => v = .bl true) fun _ _ _ => False)
    (hCX : ∀ (H : Hp) (s : Shared) (e : Value) (s' : Shared), CX [] H s (fun _ _ _ => False) e s' → False) :
    PySem.W.WalkO q loose XP YP l.row.toRowW d [] (fun f vs => PySem.call f vs) :=
  walk_of (K := K) (CX := fun _ => CX) (sp := fun w => sp (K w.params)) hn hn2 hdf hr hY F (fun w H a ns h1 h2 h3 => hsp (K w.params) H a ns h1 h2 h3) fun _ H s e s' => hCX H s e s'
end L2
/-! SHORT WORDS over the layer: a def of the text, its body, what a loop and a test want. -/
namespace L2
open PySem PySem.Spec PyProof.Rows
/-! ### the text by places -/
/-- the j-th statement of a class's body -/
def inClass (s : Stmt) (j : Nat) : Stmt := match s with
  | .ClassDef _ _ _ body _ _ _ _ _ _ _ => body.getD j (.Pass ⟨0, 0, 0, 0⟩)
  | _ => .Pass ⟨0, 0, 0, 0⟩
def defArgs (s : Stmt) : Arguments := match s with
  | .FunctionDef _ a _ _ _ _ _ _ _ _ => a
  | _ => { posonlyargs := [], args := [], vararg := none, kwonlyargs := [], kw_defaults := [], kwarg := none, defaults := [] }
def defBody (s : Stmt) : List Stmt := match s with
  | .FunctionDef _ _ b _ _ _ _ _ _ _ => b
  | _ => []
def defScope (s : Stmt) : Scope := match s with
  | .FunctionDef _ _ _ _ _ _ sc _ _ _ => sc
  | _ => { kind := .function, names := [], isGenerator := false, isCoroutine := false }
/-! ### no exception leaves a def -/
abbrev CX0 : CXT := fun _ _ _ _ _ _ => False
abbrev E0 : XK := fun _ _ _ => False
theorem pass0 {X : Cx} : Passes CX0 X E0 := fun _ _ _ _ _ _ _ h => h.elim
/-! ### a def (or method) of the text as it stands behind the top -/
structure Fun (K : PySem.W.Frag) (x qual : Str) (st : Stmt) (f : Addr) (fd : FuncData) : Prop where
  ex : ∃ (oc : Value) (od : Option Addr) (kV doc pm : Value) (an : Option Addr) (cdv ct : Value) (osl : Array (Option Value)),
    fd = PySem.W.fnOf x qual (defArgs st) (defBody st) (defScope st) .none kV doc pm an cdv ct ∧ K.lookup f = some ⟨oc, od, .func fd, osl⟩ ∧ PySem.W.codeIn K cdv qual = true
  kp : PySem.W.keepIn K (.ref f) = true
section
variable {P : Program} {w : World} {K : PySem.W.Frag} {mg : Str → Option Value} {base : Heap}
/-- THE RULE for a def: its body as a term of rules, and the reading of that term -/
theorem Fun.ok {x qual : Str} {st : Stmt} {f : Addr} {fd : FuncData} {N ps : List Str} {k : Nat} {sp : Sp} (F : Fun K x qual st f fd) (S : FnScope N ps (defScope st)) (len : ∀ vs H Q E, sp vs H Q E → vs.length = ps.length)
    (hbody : ∀ (cdv : Value) (A : Around) (outer : List Env) (s : Shared) (H : Hp) (vs : List V) (Q : VK) (E : XK), Room k (A.deeper (envOfC qual (defScope st) s.heap.objs.size f cdv)) → sp vs H Q E →
      ∃ t, PSs (cxOf CX0 P w K mg base N qual (defScope st) f cdv A outer s H E).nox (defBody st) t ∧ t { nx := fun _ H' => Q .non H', rt := Q } (start N vs) H) : FnOk P w K mg base CX0 (k + 1) f fd ps sp := by
  obtain ⟨oc, od, kV, doc, pm, an, cdv, ct, osl, rfl, lk, hcd⟩ := F.ex
  refine fn_of lk hcd S len fun A outer s H vs Q E hr hsp => ?_
  obtain ⟨t, h, q⟩ := hbody cdv A outer s H vs Q E hr hsp
  exact ⟨t, h.nox, q⟩
/-- how its arguments bind (no defaults): h is «fun _ _ _ _ _ _ us hl => match us, hl with | [_, _], _ => rfl», one _ a parameter -/
theorem Fun.binds {x qual : Str} {st : Stmt} {f : Addr} {fd : FuncData} {ps : List Str} (F : Fun K x qual st f fd)
    (h : ∀ (kV doc pm : Value) (an : Option Addr) (cdv ct : Value) (us : List Value), us.length = ps.length → bindArgs (PySem.W.fnOf x qual (defArgs st) (defBody st) (defScope st) .none kV doc pm an cdv ct) ⟨us, []⟩ = pure (ps.zip us)) : Binds K fd ps [] := by
  obtain ⟨oc, od, kV, doc, pm, an, cdv, ct, osl, rfl, lk, hcd⟩ := F.ex
  exact .all (h kV doc pm an cdv ct)
theorem fun_mk {x qual : Str} {st : Stmt} {f : Addr} {oc : Value} {od an : Option Addr} {osl : Array (Option Value)} {kV doc pm cdv ct : Value} (l : K.lookup f = some ⟨oc, od, .func (PySem.W.fnOf x qual (defArgs st) (defBody st) (defScope st) .none kV doc pm an cdv ct), osl⟩)
    (c : PySem.W.codeIn K cdv qual = true) (k : PySem.W.keepIn K (.ref f) = true) : Fun K x qual st f (PySem.W.fnOf x qual (defArgs st) (defBody st) (defScope st) .none kV doc pm an cdv ct) := ⟨⟨oc, od, kV, doc, pm, an, cdv, ct, osl, rfl, l, c⟩, k⟩
end
theorem small1000 {n : Nat} (h : n ≤ 1000) : n < sizeLine := Nat.lt_of_le_of_lt h (by decide)
/-! ### expressions in short: the name that stands in the i-th slot -/
section
variable {X : Cx}
theorem pv (i : Nat) {x : Str} {pos : Pos} (hN : X.N[i]? = some x := by rfl) (hv : Vis X.env.scope x := by first | exact Or.inl rfl | exact Or.inr (Or.inl rfl) | exact Or.inr (Or.inr rfl)) (hd : (x == ("__debug__" : Str)) = false := by decide)
    (hcd : (x == ("__classdict__" : Str)) = false := by decide) : PE X (.Name x pos) (tVar i) := pe_var hN hv hd hcd
end
/-! ### tests -/
theorem iteF {A B : Prop} (h : B) : if false = true then A else B := by
  rw [if_neg Bool.false_ne_true]
  exact h
theorem iteT {A B : Prop} (h : A) : if true = true then A else B := by
  rw [if_pos rfl]
  exact h
/-! ### heaps -/
/-- all that was tracked is as it was -/
def Same (H H' : Hp) : Prop := ∀ b o, H b = some o → H' b = some o
theorem Same.refl (H : Hp) : Same H H := fun _ _ h => h
theorem Same.trans {H H1 H2 : Hp} (a : Same H H1) (b : Same H1 H2) : Same H H2 := fun c o h => b c o (a c o h)
theorem Same.free {H H' : Hp} (e : Same H H') {l : Addr} (h : H' l = Option.none) : H l = Option.none := by
  cases q : H l with
  | none => rfl
  | some o =>
    rw [e l o q] at h
    cases h
theorem Same.seq {K : PySem.W.Frag} {H H' : Hp} {a : Addr} {xs : List V} (e : Same H H') (h : SqL K H a xs) : SqL K H' a xs := by
  rcases h with (h | ⟨o, h⟩) | h
  · exact .inl (.inl (e _ _ h))
  · exact .inl (.inr ⟨o, e _ _ h⟩)
  · exact .inr h
end L2
end
section
set_option Elab.async false
set_option linter.all false
set_option maxRecDepth 100000
namespace L2
open PySem PySem.Spec PyProof.Rows
/-! ### lists of pairs as tables -/
section
variable {κ : Type} [DecidableEq κ]
def valV (kvs : List (κ × V)) (k : κ) : Option V := (kvs.find? fun kv => decide (kv.1 = k)).map (·.2)
/-- in its place, or at the end -/
def putK (kvs : List (κ × V)) (k : κ) (v : V) : List (κ × V) :=
  if (kvs.any fun kv => decide (kv.1 = k)) = true then kvs.map (fun kv => if kv.1 = k then (kv.1, v) else kv) else kvs ++ [(k, v)]
def dropK (kvs : List (κ × V)) (k : κ) : List (κ × V) := kvs.filter fun kv => decide (kv.1 ≠ k)
theorem valV_pos {p : κ × V} {r : List (κ × V)} {k : κ} (e : p.1 = k) : valV (p :: r) k = some p.2 := by simp [valV, List.find?_cons, e]
theorem valV_neg {p : κ × V} {r : List (κ × V)} {k : κ} (e : ¬ p.1 = k) : valV (p :: r) k = valV r k := by simp [valV, List.find?_cons, e]
theorem valV_any (k : κ) : ∀ kvs : List (κ × V), (kvs.any fun kv => decide (kv.1 = k)) = (valV kvs k).isSome
  | [] => rfl
  | p :: r => by
    rw [List.any_cons]
    by_cases e : p.1 = k
    · simp only [valV_pos e, decide_eq_true e, Bool.true_or, Option.isSome_some]
    · rw [valV_neg e, decide_eq_false e, Bool.false_or]; exact valV_any k r
theorem RelO.isSome_eq {o : Option V} {u : Option Value} (r : RelO o u) : o.isSome = u.isSome := by
  cases o with
  | none => cases u with
    | none => rfl
    | some _ => exact (show False from r).elim
  | some _ => cases u with
    | none => exact (show False from r).elim
    | some _ => rfl
theorem RelO.getD {o : Option V} {u : Option Value} {d : V} {d' : Value} (r : RelO o u) (rd : RelV d d') : RelV (o.getD d) (u.getD d') := by
  cases o with
  | none => cases u with
    | none => exact rd
    | some _ => exact (show False from r).elim
  | some _ => cases u with
    | none => exact (show False from r).elim
    | some _ => exact r
/-- raw tables of the same keys -/
theorem KV.val {kvs : List (κ × V)} {vs : List (κ × Value)} (r : KV kvs vs) (k : κ) : RelO (valV kvs k) (valueAt vs k) := by
  unfold KV at r
  induction r with
  | nil => exact True.intro
  | @cons p q ps qs h t ih =>
    obtain ⟨h1, h2⟩ := h
    by_cases e : p.1 = k
    · have e' : q.1 = k := h1.symm.trans e
      have b : valueAt (q :: qs) k = some q.2 := by simp [valueAt, List.find?_cons, e']
      rw [valV_pos e, b]; exact h2
    · have e' : ¬ q.1 = k := fun z => e (h1.trans z)
      have b : valueAt (q :: qs) k = valueAt qs k := by simp [valueAt, List.find?_cons, e']
      rw [valV_neg e, b]; exact ih
theorem KV.any {kvs : List (κ × V)} {vs : List (κ × Value)} (r : KV kvs vs) (k : κ) : (kvs.any fun kv => decide (kv.1 = k)) = vs.any fun kv => decide (kv.1 = k) := by
  unfold KV at r
  induction r with
  | nil => rfl
  | cons h t ih => rw [List.any_cons, List.any_cons, ih, h.1]
theorem KV.repl {kvs : List (κ × V)} {vs : List (κ × Value)} (r : KV kvs vs) (k : κ) {y : V} {u : Value} (ry : RelV y u) :
    KV (kvs.map fun kv => if kv.1 = k then (kv.1, y) else kv) (vs.map fun kv => if kv.1 = k then (kv.1, u) else kv) := by
  unfold KV at r ⊢
  induction r with
  | nil => exact .nil
  | @cons p q ps qs h t ih =>
    rw [List.map_cons, List.map_cons]
    refine .cons ?_ ih
    obtain ⟨h1, h2⟩ := h
    by_cases e : p.1 = k
    · rw [if_pos e, if_pos (h1.symm.trans e)]; exact ⟨h1, ry⟩
    · rw [if_neg e, if_neg (fun z => e (h1.trans z))]; exact ⟨h1, h2⟩
theorem KV.put {kvs : List (κ × V)} {vs : List (κ × Value)} (r : KV kvs vs) (k : κ) {y : V} {u : Value} (ry : RelV y u) : KV (putK kvs k y) (stored vs k u) := by
  unfold putK stored
  rw [r.any k]
  by_cases e : (vs.any fun kv => decide (kv.1 = k)) = true
  · rw [if_pos e, if_pos e]; exact r.repl k ry
  · rw [if_neg e, if_neg e]; exact Paired.snoc r ⟨rfl, ry⟩
theorem KV.drop {kvs : List (κ × V)} {vs : List (κ × Value)} (r : KV kvs vs) (k : κ) : KV (dropK kvs k) (without vs k) := by
  unfold KV at r ⊢
  unfold dropK without
  induction r with
  | nil => exact .nil
  | @cons p q ps qs h t ih =>
    obtain ⟨h1, h2⟩ := h
    rw [List.filter_cons, List.filter_cons]
    by_cases e : p.1 = k
    · have a : ¬ decide (p.1 ≠ k) = true := by simp [e]
      have b : ¬ decide (q.1 ≠ k) = true := by simp [h1.symm.trans e]
      rw [if_neg a, if_neg b]; exact ih
    · have e' : ¬ q.1 = k := fun z => e (h1.trans z)
      have a : decide (p.1 ≠ k) = true := by simp [e]
      have b : decide (q.1 ≠ k) = true := by simp [e']
      rw [if_pos a, if_pos b]; exact .cons ⟨h1, h2⟩ ih
theorem KV.keys {kvs : List (κ × V)} {vs : List (κ × Value)} (r : KV kvs vs) : kvs.map (·.1) = vs.map (·.1) := by
  unfold KV at r
  induction r with
  | nil => rfl
  | cons h t ih => rw [List.map_cons, List.map_cons, ih, h.1]
theorem KV.length {kvs : List (κ × V)} {vs : List (κ × Value)} (r : KV kvs vs) : kvs.length = vs.length := Paired.length r
end
/-- raw entries of a dict with tuple keys -/
abbrev KT (H : Hp) : List (List Key × V) → List (List Key × Addr × Value) → Prop := Paired fun p q => p.1 = q.1 ∧ H q.2.1 = some (.tup (p.1.map kV)) ∧ RelV p.2 q.2.2
theorem KT.val {H : Hp} {kvs : List (List Key × V)} {xs : List (List Key × Addr × Value)} (r : KT H kvs xs) (k : List Key) : RelO (valV kvs k) ((atKey xs k).map (·.2)) := by
  induction r with
  | nil => exact True.intro
  | @cons p q ps qs h t ih =>
    obtain ⟨h1, _, h2⟩ := h
    by_cases e : p.1 = k
    · have e' : q.1 = k := h1.symm.trans e
      have b : atKey (q :: qs) k = some q.2 := by simp [atKey, List.find?_cons, e']
      rw [valV_pos e, b]; exact h2
    · have e' : ¬ q.1 = k := fun z => e (h1.trans z)
      have b : atKey (q :: qs) k = atKey qs k := by simp [atKey, List.find?_cons, e']
      rw [valV_neg e, b]; exact ih
theorem KT.repl {H : Hp} {kvs : List (List Key × V)} {xs : List (List Key × Addr × Value)} (r : KT H kvs xs) (k : List Key) {y : V} {u : Value} (ry : RelV y u) :
    KT H (kvs.map fun kv => if kv.1 = k then (kv.1, y) else kv) (xs.map (putAt k u)) := by
  induction r with
  | nil => exact .nil
  | @cons p q ps qs h t ih =>
    rw [List.map_cons, List.map_cons]
    refine .cons ?_ ih
    obtain ⟨h1, h2, h3⟩ := h
    unfold putAt
    by_cases e : p.1 = k
    · rw [if_pos e, if_pos (h1.symm.trans e)]; exact ⟨h1, h2, ry⟩
    · rw [if_neg e, if_neg (fun z => e (h1.trans z))]; exact ⟨h1, h2, h3⟩
theorem KT.put {H : Hp} {kvs : List (List Key × V)} {xs : List (List Key × Addr × Value)} (r : KT H kvs xs) (k : List Key) {b : Addr} {y : V} {u : Value} (hb : H b = some (.tup (k.map kV))) (ry : RelV y u) :
    KT H (putK kvs k y) (storedH xs k b u) := by
  have e : (kvs.any fun kv => decide (kv.1 = k)) = (atKey xs k).isSome := by
    rw [valV_any, (r.val k).isSome_eq, Option.isSome_map]
  unfold putK storedH
  rw [e]
  by_cases q : (atKey xs k).isSome = true
  · rw [if_pos q, if_pos q]; exact r.repl k ry
  · rw [if_neg q, if_neg q]; exact Paired.snoc r ⟨rfl, hb, ry⟩
theorem KT.keeps {H H' : Hp} {kvs : List (List Key × V)} {xs : List (List Key × Addr × Value)} (r : KT H kvs xs) (ht : ∀ b ys, H b = some (.tup ys) → H' b = some (.tup ys)) : KT H' kvs xs :=
  Paired.mapP r fun _ _ z => ⟨z.1, ht _ _ z.2.1, z.2.2⟩
section
variable {P : Program} {w : World} {H : Hp} {h : Heap} {a : Addr}
end
/-- what the dict at a holds at the key y -/
def DGet (H : Hp) (a : Addr) (y : V) (r : Option V) : Prop :=
  (∃ kvs k, Rd H a (.dK kvs) ∧ y = kV k ∧ r = valV kvs k) ∨ ∃ kvs k b, Rd H a (.dT kvs) ∧ y = .ref b ∧ H b = some (.tup (k.map kV)) ∧ r = valV kvs k
/-- the heap behind a[y] = v -/
def DPut (H : Hp) (a : Addr) (y v : V) (H' : Hp) : Prop :=
  (∃ kvs k, H a = some (.dK kvs) ∧ y = kV k ∧ kvs.length < sizeLine ∧ H' = upd H a (.dK (putK kvs k v))) ∨
  ∃ kvs k b, H a = some (.dT kvs) ∧ y = .ref b ∧ H b = some (.tup (k.map kV)) ∧ kvs.length < sizeLine ∧ H' = upd H a (.dT (putK kvs k v))
theorem DGet.k {H : Hp} {a : Addr} {kvs : List (Key × V)} {k : Key} (e : H a = some (.dK kvs)) : DGet H a (kV k) (valV kvs k) := .inl ⟨kvs, k, .inl e, rfl, rfl⟩
theorem DGet.t {H : Hp} {a b : Addr} {kvs : List (List Key × V)} {k : List Key} (e : H a = some (.dT kvs)) (eb : H b = some (.tup (k.map kV))) : DGet H a (.ref b) (valV kvs k) := .inr ⟨kvs, k, b, .inl e, rfl, eb, rfl⟩
theorem DPut.k {H : Hp} {a : Addr} {kvs : List (Key × V)} {k : Key} {v : V} (e : H a = some (.dK kvs)) (hl : kvs.length < sizeLine) : DPut H a (kV k) v (upd H a (.dK (putK kvs k v))) := .inl ⟨kvs, k, e, rfl, hl, rfl⟩
theorem DPut.t {H : Hp} {a b : Addr} {kvs : List (List Key × V)} {k : List Key} {v : V} (e : H a = some (.dT kvs)) (eb : H b = some (.tup (k.map kV))) (hl : kvs.length < sizeLine) :
    DPut H a (.ref b) v (upd H a (.dT (putK kvs k v))) := .inr ⟨kvs, k, b, e, rfl, eb, hl, rfl⟩
section
variable {X : Cx} {pins : List (Addr × Obj)} {σ : St} {H : Hp} {s : Shared} {a : Addr} {y v : V} {u r : Value} {o : Option V} {A : Around} {E : Value → Shared → Prop}
end
section
variable {X : Cx} {pins : List (Addr × Obj)} {σ : St} {H : Hp} {s : Shared} {a : Addr} {kvs : List (Key × V)} {k : Key} {u : Value} {A : Around} {E : Value → Shared → Prop}
end
section
variable {X : Cx} {o i e value : Expr} {pos pos' tpos : Pos} {td ty tv : TE}
end
section
variable {X : Cx} {pos : Pos}
end
/-! ### methods -/
/-- a method call o.m(e) of a built-in, with one argument: what must be seen of the text -/
structure M1 (X : Cx) (o : Expr) (m : Str) (apos : Pos) (e : Expr) (cpos : Pos) : Prop where
  base : attributeBase o m X.env (eval o X.env) = eval o X.env
  few : ((backTo cpos (starEach [e] X.env)).all (fun x => !x.1) && (backToKw cpos (keywordEach [] X.env)).all (fun x => x.1.isSome)
    && decide (([e] : List Expr).length + ([] : List Keyword).length + (if ([] : List Keyword).isEmpty then 0 else 1) < 30)) = true
  line : (apos.endLine == cpos.line) = true
  trees : backTo cpos (starEach [e] X.env) = [(false, eval e X.env)]
structure M2 (X : Cx) (o : Expr) (m : Str) (apos : Pos) (e f : Expr) (cpos : Pos) : Prop where
  base : attributeBase o m X.env (eval o X.env) = eval o X.env
  few : ((backTo cpos (starEach [e, f] X.env)).all (fun x => !x.1) && (backToKw cpos (keywordEach [] X.env)).all (fun x => x.1.isSome)
    && decide (([e, f] : List Expr).length + ([] : List Keyword).length + (if ([] : List Keyword).isEmpty then 0 else 1) < 30)) = true
  line : (apos.endLine == cpos.line) = true
  trees : backTo cpos (starEach [e, f] X.env) = [(false, eval e X.env), (false, eval f X.env)]
section
variable {X : Cx} {pins : List (Addr × Obj)} {σ : St} {H : Hp} {s : Shared} {a : Addr} {y d : V} {u r : Value} {o : Option V} {A : Around} {E : Value → Shared → Prop}
end
section
variable {X : Cx} {o e f : Expr} {apos cpos : Pos} {td ty tx : TE}
end
/-! ### dict(d): a copy -/
section
variable {X : Cx} {pins : List (Addr × Obj)} {σ : St} {H : Hp} {s : Shared} {a : Addr} {kvs : List (Key × V)} {A : Around} {E : Value → Shared → Prop}
end
section
variable {X : Cx} {pins : List (Addr × Obj)} {σ : St} {H : Hp} {s : Shared} {a : Addr} {y : V} {u : Value} {A : Around} {E : Value → Shared → Prop}
end
end L2
namespace L2
open PySem PySem.Spec PyProof.Rows
section
variable {X : Cx}
end
/-! ### a dict's pairs: keys that differ -/
section
variable {κ : Type} [DecidableEq κ]
end
end L2
end
section
set_option Elab.async false
set_option linter.all false
set_option maxRecDepth 100000
set_option maxHeartbeats 4000000
/-! MORE RULES over the hand layer: a method by the class that stands there, isinstance, a class without __init__, a comprehension. -/
namespace L2
open PySem PySem.Spec PyProof.Rows
/-! ### a method, whatever the class -/
/-- every instance of the class at C answers m by a def that keeps sp -/
structure MethAt (P : Program) (w : World) (K : PySem.W.Frag) (mg : Str → Option Value) (base : Heap) (CX : CXT) (k : Nat) (C : Addr) (m : Str) (sp : Sp) : Prop where
  cl : Cls K C
  ex : ∃ (f : Addr) (fd : FuncData) (ps : List Str), Meth K C m f ∧ FnOk P w K mg base CX k f fd ps sp ∧ Binds K fd ps []
theorem MethAt.mono {P : Program} {w : World} {K : PySem.W.Frag} {mg : Str → Option Value} {base : Heap} {CX : CXT} {j k : Nat} {C : Addr} {m : Str} {sp : Sp} (h : MethAt P w K mg base CX j C m sp) (hk : j ≤ k) : MethAt P w K mg base CX k C m sp :=
  ⟨h.cl, let ⟨f, fd, ps, a, b, c⟩ := h.ex; ⟨f, fd, ps, a, b.mono hk, c⟩⟩
section
variable {X : Cx} {CX : CXT} {k : Nat} {E : XK} {m : Str} {pos apos : Pos} {e o : Expr} {es : List Expr} {ta : TE} {t : TA}
def tMethD {ι : Type} (R : ι → Addr) (m : Str) (sp : ι → Sp) (E : XK) (ta : TE) (t : TA) : TE := fun σ H Q => ta σ H fun x H1 => ∃ i a dx fs, x = .ref a ∧ H1 a = some (.ins (R i) dx fs) ∧ fs.lookup m = none ∧
  t σ H1 fun vs H2 => sp i (x :: vs) H2 Q E
theorem pe_methD {ι : Type} {R : ι → Addr} {sp : ι → Sp} {pl : Sem Bool} (he : PE X o ta) (hR : ∀ i, MethAt X.prog X.w X.K X.mg X.base CX k (R i) m (sp i)) (hr : Room k X.A) (hx : Passes CX X E) (ha : PA X (e :: es) t)
    (hst : starEach (e :: es) X.env = (false, eval e X.env) :: starEach es X.env := by rfl) (hpl : (backTo pos (starEach es X.env)).any (·.1) = false := by rfl)
    (ht : eval (.Call (.Attribute o m apos) (e :: es) [] pos) X.env = (do
      let ov ← eval o X.env
      standAt apos.atName
      let (f, first) ← holding [ov] (getMethod ov m pl)
      callWith pos f first (backTo pos (starEach (e :: es) X.env)) (backToKw pos (keywordEach [] X.env))) := by rfl) :
    PE X (.Call (.Attribute o m apos) (e :: es) [] pos) (tMethD R m sp E ta t) := by
  intro pins s σ H Q I h
  refine PySem.W.methodCall_KW (pl := pl) (thn (he pins s σ H _ I h) fun u s1 ⟨x, H1, I1, rx, i, a, dx, fs, ex, ea, l, q⟩ => ?_) ht
  subst ex
  obtain rfl : u = Value.ref a := rx
  obtain ⟨c, f, fd, ps, hm, F, hb⟩ := hR i
  refine getmeth_ok I1 ea c hm l ?_
  refine PySem.W.callWith_K (first := [.ref a]) (h₀ := X.base) I.ok.mod.kin hm.kp (thn (ha pos pins s1 σ H1 _ I1 q) fun us s2 ⟨vs, H2, I2, r, q2⟩ => ⟨I2.kIn, ?_⟩) hst hpl
  exact run_fn (us := .ref a :: us) (vs := .ref a :: vs) (dvs := []) (ds := []) F hr hb .nil hx I2 (.cons rfl r) (by rw [List.append_nil]; exact q2)
end
/-! ### isinstance -/
section
variable {X : Cx}
/-- a built-in class's name -/
theorem pe_type {x : Str} {n : String} {pos : Pos} (hg : Gl X x) (hm : X.mg x = none) (hv : bootBuiltins x = some (.type n)) (hn : x ≠ "__name__" := by decide) (hd : (x == ("__debug__" : Str)) = false := by decide) : PE X (.Name x pos) (tC (.ty n)) :=
  pe_bltn hg hm hv rfl hn hd
end
/-! ### a class that has no __init__ of its own -/
structure Mk0 (K : PySem.W.Frag) (C : Addr) : Prop where
  makes : PySem.W.makesIn K C = true
  init : PySem.W.findIn K (.ref C) "__init__" = some (some (.builtin "object.__init__"))
  kp : PySem.W.keepIn K (.ref C) = true
section
variable {X : Cx} {C : Addr} {x : Str} {p pos : Pos}
def tMake0 (C : Addr) : TE := fun _ H Q => ∀ x dx, H x = none → H dx = none → dx ≠ x → Q (.ref x) (upd (upd H dx (.own x)) x (.ins C dx []))
theorem run_make0 {pins : List (Addr × Obj)} {σ : St} {H : Hp} {s : Shared} {Q : VK} (M : Mk0 X.K C) (I : Inv X pins σ H s)
    (h : ∀ x dx, H x = none → H dx = none → dx ≠ x → Q (.ref x) (upd (upd H dx (.own x)) x (.ins C dx []))) :
    wpAny (model X.prog X.w) X.A (call (.ref C) []) (EP X pins σ Q) X.xe s := by
  have hq := h (s.heap.objs.size + 1) s.heap.objs.size (I.hok.fresh (Nat.le_succ _)) (I.hok.fresh (Nat.le_refl _)) (Nat.ne_of_lt (Nat.lt_succ_self _))
  have I2 := Inv.made (C := C) I
  have Y := PySem.W.makes_of (M := model X.prog X.w) I.kIn M.makes
  refine wpAny_call (make_map0 I.kIn M.makes M.init (fun self => PySem.W.Looks.of_pure (PySem.W.oi_bind self)) ?_)
  have e2 : ((s.heap.push PySem.W.emptyDict).push (PySem.W.instObj C s.heap.objs.size)).get? (s.heap.objs.size + 1) = some (PySem.W.instObj C s.heap.objs.size) := by
    have := Heap.get?_push_size (s.heap.push PySem.W.emptyDict) (o := PySem.W.instObj C s.heap.objs.size) rfl
    rwa [Heap.size_push] at this
  have t1 : PySem.W.Looks (model X.prog X.w) ((s.heap.push PySem.W.emptyDict).push (PySem.W.instObj C s.heap.objs.size)) (typeOf (.ref (s.heap.objs.size + 1))) (.ref C) := (PySem.W.Looks.ld e2).andThen .now
  have t2 : PySem.W.Looks (model X.prog X.w) ((s.heap.push PySem.W.emptyDict).push (PySem.W.instObj C s.heap.objs.size)) (isInstance (.ref (s.heap.objs.size + 1)) (.type "object")) true := t1.andThen (Y.top.keeps fun b o e => Heap.get?_push_of_some _ (Heap.get?_push_of_some _ e))
  refine codeAny_call_builtin PySem.W.oi_plain PySem.W.entry_oi (@PySem.W.check_slot (model X.prog X.w) _ _ _ "object.__init__" "object" "__init__" (.ref (s.heap.objs.size + 1)) [] [] _ PySem.W.oi_kind PySem.W.oi_split t2 (PySem.W.oi_args (.ref (s.heap.objs.size + 1))) ?_)
  rw [PySem.W.oi_run]
  exact wpAny_pure (And.intro rfl ⟨V.ref (s.heap.objs.size + 1), _, I2, rfl, hq⟩)
theorem pe_make00 (M : Mk0 X.K C) (hg : Gl X x) (hm : X.mg x = some (.ref C)) (hdb : (x == ("__debug__" : Str)) = false := by decide) : PE X (.Call (.Name x p) [] [] pos) (tMake0 C) := by
  intro pins s σ H Q I h
  refine wpAny_Call_Name_kw (ld_glob I hg hm ?_ hdb)
  exact PySem.W.callWith_K0 I.kIn M.kp (run_make0 M I h)
end
/-! ### a comprehension -/
/-- the cells of the free names, as closureFor lays them -/
def clos (env : Env) : List (Str × NameKind) → List (Str × Addr) → List (Str × Addr)
  | [], cs => cs
  | (n, k) :: r, cs => clos env r (if k == .free then (match env.cells.lookup n with | some a => (n, a) :: cs | none => cs) else cs)
theorem clos_eq (env : Env) : ∀ (ns : List (Str × NameKind)) (cs : List (Str × Addr)), (∀ y ∈ ns, y.2 = .free → ∃ c, env.cells.lookup y.1 = some c) →
    (forIn ns cs fun (x : Str × NameKind) (r : List (Str × Addr)) => (if (x.2 == .free) = true then do let a ← cellOf env x.1; pure (ForInStep.yield ((x.1, a) :: r)) else pure (ForInStep.yield r) : Sem (ForInStep (List (Str × Addr))))) = pure (clos env ns cs)
  | [], cs, _ => rfl
  | (n, k) :: r, cs, h => by
    have ih := clos_eq env r
    rw [List.forIn_cons]
    by_cases hk : k = .free
    · subst hk
      obtain ⟨c, e⟩ := h (n, .free) List.mem_cons_self rfl
      have e' : env.cells.lookup n = some c := e
      simp only [beq_self_eq_true, if_true, cellOf, e', pure_bind, clos]
      exact ih _ fun y hy => h y (List.mem_cons_of_mem _ hy)
    · have hb : (k == NameKind.free) = false := by simpa using hk
      simp only [hb, Bool.false_eq_true, if_false, pure_bind, clos]
      exact ih _ fun y hy => h y (List.mem_cons_of_mem _ hy)
theorem closureFor_eq {scope : Scope} {env : Env} (h : ∀ y ∈ scope.names, y.2 = .free → ∃ c, env.cells.lookup y.1 = some c) : closureFor scope env = pure (clos env scope.names []) := by
  have q := clos_eq env scope.names [] h
  simp only [closureFor]
  first
    | (rw [q]; rfl)
    | (refine Eq.trans (congrArg (fun z => z >>= fun cs => pure cs) q) ?_; rfl)
theorem clos_sub {env : Env} {x : Str} {c : Addr} : ∀ {ns : List (Str × NameKind)} {cs : List (Str × Addr)}, (clos env ns cs).lookup x = some c → cs.lookup x = some c ∨ env.cells.lookup x = some c
  | [], cs, h => .inl h
  | (n, k) :: r, cs, h => by
    have ih := clos_sub (ns := r) h
    rcases ih with ih | ih
    · by_cases hk : (k == NameKind.free) = true
      · rw [if_pos hk] at ih
        cases e : env.cells.lookup n with
        | none => rw [e] at ih; exact .inl ih
        | some a =>
          rw [e] at ih
          by_cases hx : x == n
          · have hx' : x = n := by simpa using hx
            subst hx'
            simp at ih
            subst ih
            exact .inr e
          · simp only [List.lookup_cons, hx] at ih
            exact .inl ih
      · rw [if_neg hk] at ih
        exact .inl ih
    · exact .inr ih
theorem clos_keeps {env : Env} {x : Str} {c : Addr} (hc : env.cells.lookup x = some c) : ∀ {ns : List (Str × NameKind)} {cs : List (Str × Addr)}, cs.lookup x = some c → (clos env ns cs).lookup x = some c
  | [], cs, h => h
  | (n, k) :: r, cs, h => by
    refine clos_keeps hc (ns := r) ?_
    by_cases hk : (k == NameKind.free) = true
    · rw [if_pos hk]
      cases e : env.cells.lookup n with
      | none => exact h
      | some a =>
        by_cases hx : x == n
        · have hx' : x = n := by simpa using hx
          subst hx'
          rw [hc] at e
          cases e
          simp
        · simp only [List.lookup_cons, hx]
          exact h
    · rw [if_neg hk]
      exact h
theorem clos_has {env : Env} {x : Str} {c : Addr} (hc : env.cells.lookup x = some c) : ∀ {ns : List (Str × NameKind)} {cs : List (Str × Addr)}, (x, NameKind.free) ∈ ns → (clos env ns cs).lookup x = some c
  | [], cs, h => by simp at h
  | (n, k) :: r, cs, h => by
    rcases List.mem_cons.mp h with h | h
    · cases h
      refine clos_keeps hc (ns := r) ?_
      simp [hc]
    · exact clos_has hc (ns := r) h
theorem relabel_cell {scope : Scope} {env : Env} {x : Str} : ∀ {ns : List (Str × NameKind)} {k : NameKind},
    (ns.map fun (n, k) => if (k == NameKind.free && env.scope.kind == .function && env.kindOf n == some .cell) then (n, NameKind.cell) else (n, k)).lookup x = some k → (k = .cell ∨ k = .free) → (∀ y ∈ ns, y.2 ≠ .cell) → (x, NameKind.free) ∈ ns
  | [], _, h, _, _ => by simp at h
  | (n, j) :: r, k, h, hk, nc => by
    by_cases hx : x == n
    · have hx' : x = n := by simpa using hx
      subst hx'
      have hj : j ≠ .cell := nc _ List.mem_cons_self
      by_cases hc : (j == NameKind.free && env.scope.kind == .function && env.kindOf x == some .cell) = true
      · have : j = .free := by
          have := (Bool.and_eq_true_iff.mp (Bool.and_eq_true_iff.mp hc).1).1
          simpa using this
        subst this
        exact List.mem_cons_self
      · simp only [List.map_cons, hc, if_neg, Bool.false_eq_true, not_false_eq_true, List.lookup_cons, beq_self_eq_true] at h
        have : j = k := by simpa using h
        subst this
        rcases hk with hk | hk
        · exact absurd hk hj
        · subst hk; exact List.mem_cons_self
    · refine List.mem_cons_of_mem _ (relabel_cell (scope := scope) (env := env) (ns := r) (k := k) ?_ hk fun y hy => nc y (List.mem_cons_of_mem _ hy))
      simp only [List.map_cons] at h
      by_cases hc : (j == NameKind.free && env.scope.kind == .function && env.kindOf n == some .cell) = true
      · rw [if_pos hc] at h
        simpa only [List.lookup_cons, hx] using h
      · rw [if_neg hc] at h
        simpa only [List.lookup_cons, hx] using h
theorem relabel_free {env : Env} {x : Str} : ∀ {ns : List (Str × NameKind)}, ns.lookup x = some .free →
    (ns.map fun (n, k) => if (k == NameKind.free && env.scope.kind == .function && env.kindOf n == some .cell) then (n, NameKind.cell) else (n, k)).lookup x = some .cell ∨
    (ns.map fun (n, k) => if (k == NameKind.free && env.scope.kind == .function && env.kindOf n == some .cell) then (n, NameKind.cell) else (n, k)).lookup x = some .free
  | [], h => by simp at h
  | (n, j) :: r, h => by
    by_cases hx : x == n
    · have hx' : x = n := by simpa using hx
      subst hx'
      have : j = .free := by simpa using h
      subst this
      by_cases hc : (NameKind.free == NameKind.free && env.scope.kind == .function && env.kindOf x == some .cell) = true
      · left; simp only [List.map_cons]; rw [if_pos hc]; simp
      · right; simp only [List.map_cons]; rw [if_neg hc]; simp
    · have h' : r.lookup x = some .free := by simpa only [List.lookup_cons, hx] using h
      have ih := relabel_free (env := env) (ns := r) h'
      simp only [List.map_cons]
      by_cases hc : (j == NameKind.free && env.scope.kind == .function && env.kindOf n == some .cell) = true
      · rw [if_pos hc]; simpa only [List.lookup_cons, hx] using ih
      · rw [if_neg hc]; simpa only [List.lookup_cons, hx] using ih
end L2
end
section
set_option Elab.async false
set_option linter.all false
set_option maxRecDepth 100000
set_option maxHeartbeats 4000000
namespace L2
open PySem PySem.Spec PyProof.Rows
/-- a comprehension's block: own names, then the captured ones -/
abbrev cxB (X : Cx) (scope : Scope) (C : Addr) (N' : List Str) (s₀ : Shared) (H₀ : Hp) (fp : List Addr) : Cx :=
  { X with N := N', s₀ := s₀, H₀ := H₀, env := compEnvC scope (clos X.env scope.names []) C X.env, outer := X.stack, stack := X.stack, ex := fp, fn := fun _ => false, pn := [], xe := fun _ _ => False }
/-- the captured names: where they stand in X -/
def CapsOk (X : Cx) (scope : Scope) : List (Str × Nat) → Prop
  | [] => True
  | p :: r => (scope.names.lookup p.1 = some .free ∧ X.N[p.2]? = some p.1 ∧ (X.env.scope.names.lookup p.1 = some .cell ∨ X.env.scope.names.lookup p.1 = some .free)) ∧ CapsOk X scope r
theorem CapsOk.mem {X : Cx} {scope : Scope} : ∀ {l : List (Str × Nat)}, CapsOk X scope l → ∀ p ∈ l, scope.names.lookup p.1 = some .free ∧ X.N[p.2]? = some p.1 ∧ (X.env.scope.names.lookup p.1 = some .cell ∨ X.env.scope.names.lookup p.1 = some .free)
  | [], _, p, h => by simp at h
  | q :: r, h, p, hp => by
    rcases List.mem_cons.mp hp with e | e
    · rw [e]; exact h.1
    · exact CapsOk.mem h.2 p e
/-- every free name of the block is a cell's here -/
def FreesOk (X : Cx) (names : List (Str × NameKind)) : Prop := (names.all fun y => y.2 != .free || X.env.scope.names.lookup y.1 == some .cell || X.env.scope.names.lookup y.1 == some .free) = true
theorem FreesOk.mem {X : Cx} {l : List (Str × NameKind)} (h : FreesOk X l) : ∀ y ∈ l, y.2 = .free → (X.env.scope.names.lookup y.1 = some .cell ∨ X.env.scope.names.lookup y.1 = some .free) := fun y hy e => by
  have q := List.all_eq_true.mp h y hy
  rw [e] at q
  have q' : ((X.env.scope.names.lookup y.1 == some .cell) || (X.env.scope.names.lookup y.1 == some .free)) = true := q
  rcases Bool.or_eq_true_iff.mp q' with z | z
  · exact .inl (eq_of_beq z)
  · exact .inr (eq_of_beq z)
structure CompScope (X : Cx) (scope : Scope) (own : List Str) (caps : List (Str × Nat)) : Prop where
  kind : scope.kind = .function
  nocell : ∀ y ∈ scope.names, y.2 ≠ .cell
  names : ∀ y ∈ scope.names, y.2 = .local → scope.names.lookup y.1 = some .local
  caps : CapsOk X scope caps
  frees : FreesOk X scope.names
abbrev capN (own : List Str) (caps : List (Str × Nat)) : List Str := own ++ caps.map (·.1)
abbrev capS (own : List Str) (caps : List (Str × Nat)) (σ : St) : St := List.replicate own.length none ++ caps.map fun p => (σ[p.2]?).getD none
theorem compLoop_any {prog : Program} {w : World} {A : Around} {R : Result → Shared → Prop} {s : Shared} {elt target iter : Expr} {ifs : List Expr} {scope : Scope} {pos : Pos} {it acc : Value} {env : Env} (I : Nat → Shared → Prop)
    (turn : ∀ n s, I n s → wpAny (model prog w) A (pyNext it) (fun r s₁ => match r with
      | none => R (.ok .next) s₁
      | some v => wpAny (model prog w) A (letOwnedTupleGo target it v) (fun _ s₁' => wpAny (model prog w) A (assign target env v) (fun _ s₂ =>
          wpAny (model prog w) A (forIn ifs true fun c r => if r = true then do let ok ← isTrue c env (eval c env); pure (ForInStep.yield ok) else pure (ForInStep.yield r)) (fun ok s₃ =>
            if ok = true then wpAny (model prog w) A (eval elt env) (fun x s₄ =>
              wpAny (model prog w) A (call (.builtin "list.append") [acc, x]) (fun _ s₅ => ∃ m, m < n ∧ I m s₅) (fun _ _ => False) s₄) (fun _ _ => False) s₃
            else ∃ m, m < n ∧ I m s₃) (fun _ _ => False) s₂) (fun _ _ => False) s₁') (fun _ _ => False) s₁) (fun _ _ => False) s)
    (n : Nat) (h : I n s) :
    codeAny (model prog w) A (.compLoop (.ListComp elt [⟨target, iter, ifs, 0⟩] scope pos) 0 it acc env) R s := by
  refine codeAny_loop rfl I (fun n s hI => ?_) n h
  show wpAny _ A ((compTurn (.ListComp elt [⟨target, iter, ifs, 0⟩] scope pos) 0 it acc env).onRaise (fun x => do noteFrame x env; theTreesLotGoes x)) _ _ s
  refine wpAny_noted ?_
  rw [compTurn_list]
  refine wpAny_bind (wpAny_standAt (wpAny_bind (wpAny_mono (turn n s hI) (fun r s₁ h₁ => ?_) fun _ _ h' => h'.elim)))
  cases r with
  | none => exact wpAny_pure h₁
  | some v =>
    refine wpAny_bind (wpAny_mono h₁ (fun _ s₁' h₁' => ?_) fun _ _ h' => h'.elim)
    refine wpAny_bind (wpAny_mono h₁' (fun _ s₂ h₂ => wpAny_bind (wpAny_mono h₂ (fun ok s₃ h₃ => ?_) fun _ _ h' => h'.elim)) fun _ _ h' => h'.elim)
    cases ok with
    | false => exact wpAny_pure ⟨rfl, h₃⟩
    | true =>
      exact wpAny_bind (wpAny_bind (wpAny_mono h₃ (fun x s₄ h₄ => wpAny_bind (wpAny_mono h₄ (fun _ s₅ h₅ => wpAny_pure (wpAny_pure ⟨rfl, h₅⟩)) fun _ _ h' => h'.elim)) fun _ _ h' => h'.elim))
section
variable {X : Cx} {pins : List (Addr × Obj)} {σ : St} {H : Hp} {s s1 : Shared} {scope : Scope} {own : List Str} {caps : List (Str × Nat)} {fp : List Addr}
theorem Inv.block {h1 : Heap} {tk : Nat} (I : Inv X pins σ H s) (S : CompScope X scope own caps) (hf : ∀ b ∈ fp, FpOk X pins H b)
    (hns : h1.Ns s.heap.objs.size fun _ => none) (hk : ∀ b o, s.heap.get? b = some o → h1.get? b = some o) (hfl : ∀ b ∈ fp, b < s.heap.objs.size) :
    Inv (cxB X scope s.heap.objs.size (capN own caps) s H fp) [] (capS own caps σ) H { s with heap := h1, toks := tk } := by
  have hfree : ∀ y ∈ scope.names, y.2 = .free → ∃ c, X.env.cells.lookup y.1 = some c := fun y hy e => I.ok.has _ (S.frees.mem y hy e)
  have sub : ∀ x c, (clos X.env scope.names []).lookup x = some c → X.env.cells.lookup x = some c := fun x c e => by
    rcases clos_sub e with z | z
    · simp at z
    · exact z
  have celT : ∀ {c : Addr} {v : Option Value}, s.heap.IsCell c v → h1.IsCell c v := fun {c v} ⟨o, ho, hd⟩ => ⟨o, hk _ _ ho, hd⟩
  refine ⟨⟨I.ok.mod, ?_, I.ok.glob, I.ok.blt, Nat.le_refl _, fun y z c e1 e2 => I.ok.inj y z c (sub _ _ e1) (sub _ _ e2), fun y hy => ?_, (fun y c e => (nomatch e)), I.ok.hd, I.ok.frames, .inl rfl, fun b hb => ⟨Nat.ne_of_lt (hfl b hb), fun x c e => (hf b hb).2.2.2.2.1 x c (sub x c e)⟩,
      I.bs, Nat.le_trans I.ok.bsz I.sz, fun b o e hb => ?_, fun b hb z => ?_, I.stack, I.stkFree⟩,
    rfl, I.bare, Un.kept hk, ⟨_, hns, fun i y v e1 e2 e3 => ?_⟩, fun y c e => ?_, I.hok.fresh (Nat.le_refl _), fun y c e => I.freeC y c (sub y c e), fun p hp => absurd (show p ∈ ([] : List (Addr × Obj)) from hp) (by simp), I.hok.kept hk, ?_⟩
  · exact S.kind
  · have hy : (relabel scope X.env).names.lookup y = some .cell ∨ (relabel scope X.env).names.lookup y = some .free := hy
    have m : (y, NameKind.free) ∈ scope.names := by
      rcases hy with z | z
      · exact relabel_cell (scope := scope) (env := X.env) z (.inl rfl) S.nocell
      · exact relabel_cell (scope := scope) (env := X.env) z (.inr rfl) S.nocell
    obtain ⟨c, e⟩ := hfree _ m rfl
    exact ⟨c, clos_has e m⟩
  · rcases (hf b hb).2.2.2.1 with z | z
    · exact I.ok.noex b o e z
    · exact absurd (Nat.lt_of_lt_of_le (Heap.lt_size e) (Nat.le_trans I.ok.bsz z)) (Nat.lt_irrefl _)
  · rcases List.mem_cons.mp (I.stkSub b z) with q | q
    · exact (hf b hb).2.1 q
    · exact (hf b hb).2.2.1 q
  · -- a captured name
    have hi : own.length ≤ i := by
      rcases Nat.lt_or_ge i own.length with q | q
      · rw [List.getElem?_append_left (by simpa using q), List.getElem?_replicate, if_pos q] at e2
        cases e2
      · exact q
    rw [List.getElem?_append_right hi, List.getElem?_map] at e1
    rw [List.getElem?_append_right (by simpa using hi), List.length_replicate, List.getElem?_map] at e2
    cases ep : caps[i - own.length]? with
    | none => rw [ep] at e1; cases e1
    | some p =>
      rw [ep] at e1 e2
      have ey : p.1 = y := Option.some.inj e1
      subst ey
      obtain ⟨f1, f2, f3⟩ := S.caps.mem p (List.mem_of_getElem? ep)
      have eσ : σ[p.2]? = some (some v) := by
        have e2' : (σ[p.2]?).getD none = some v := Option.some.inj e2
        cases q : σ[p.2]? with
        | none => rw [q] at e2'; cases e2'
        | some o => rw [q] at e2'; exact congrArg some e2'
      obtain ⟨m, _, hl⟩ := I.loc
      obtain ⟨u, ru, L⟩ := hl p.2 p.1 v f2 eσ (f3.elim (fun z => .inr (.inl z)) fun z => .inr (.inr z))
      refine ⟨u, ru, .inr ⟨relabel_free f1, ?_⟩⟩
      rcases L with ⟨L, _⟩ | ⟨_, c, e, ic⟩
      · have L : X.env.scope.names.lookup p.1 = some .local := L
        rcases f3 with z | z <;> (rw [z] at L; cases L)
      · exact ⟨c, clos_has e (PySem.mem_of_lookup f1), celT ic⟩
  · obtain ⟨v, z⟩ := I.cell y c (sub y c e)
    exact ⟨v, celT z⟩
  · show (capS own caps σ).length = (capN own caps).length
    simp
/-- the tests of a comprehension: none or one -/
def PTs (X : Cx) (ifs : List Expr) (t : TT) : Prop := ∀ (pins : List (Addr × Obj)) (s : Shared) (σ : St) (H : Hp) (Q : Bool → Hp → Prop), Inv X pins σ H s → t σ H Q →
  wpAny (model X.prog X.w) X.A (forIn ifs true fun c r => if r = true then do let ok ← isTrue c X.env (eval c X.env); pure (ForInStep.yield ok) else pure (ForInStep.yield r)) (TP X pins σ Q) X.xe s
def tYes : TT := fun _ H Q => Q true H
theorem pts_nil {X : Cx} : PTs X [] tYes := fun _ _ _ H _ I h => wpAny_tests_nil ⟨H, I, h⟩
theorem pts_one {X : Cx} {c : Expr} {t : TT} (h : PT X c t) : PTs X [c] t := fun pins s σ H Q I hq => wpAny_tests_one (h pins s σ H Q I hq)
/-- the reading: D is the new list; W, N as in a for -/
def CompGo (own : List Str) (caps : List (Str × Nat)) (g : TG) (tc : TT) (te : TE) (σ : St) (Q : VK) (J : It) (H1 : Hp) : Prop := ∀ D, H1 D = none → ∃ W : Nat → Nat → St → Hp → Prop, (∃ m, W 0 m (capS own caps σ) (upd H1 D (.lst []))) ∧ ∀ i m σ' H', W i m σ' H' →
  (J.stop i H' ∧ Q (.ref D) H') ∨ (J.go i H' ∧ ∃ N : St → Hp → Prop, (∀ σ2 H2, N σ2 H2 → ∃ m', m' < m ∧ W (i + 1) m' σ2 H2) ∧ ∀ x H2, J.yld i H' x H2 → g x σ' H2 fun σ3 H3 => tc σ3 H3 fun b H4 =>
    if b = true then te σ3 H4 fun y H5 => ∃ ys, H5 D = some (.lst ys) ∧ ys.length < sizeLine ∧ N σ3 (upd H5 D (.lst (ys ++ [y]))) else N σ3 H4)
def tComp (own : List Str) (caps : List (Str × Nat)) (wi : TI) (g : TG) (tc : TT) (te : TE) : TE := fun σ H Q => wi σ H (CompGo own caps g tc te σ Q)
theorem pe_comp {elt tg iter : Expr} {ifs : List Expr} {pos : Pos} {wi : TI} {g : TG} {tc : TT} {te : TE} (S : CompScope X scope own caps) (hc : X.calm = true) (hi : PI X tg iter wi)
    (hg : ∀ C s₀ H₀ fp, PG (cxB X scope C (capN own caps) s₀ H₀ fp) tg g) (ht : ∀ C s₀ H₀ fp, PTs (cxB X scope C (capN own caps) s₀ H₀ fp) ifs tc) (he : ∀ C s₀ H₀ fp, PE (cxB X scope C (capN own caps) s₀ H₀ fp) elt te)
    (hs : ∀ x, foldedSetIterable iter X.env x = pure x := by intro _; rfl) : PE X (.ListComp elt [⟨tg, iter, ifs, 0⟩] scope pos) (tComp own caps wi g tc te) := by
  intro pins s σ H Q I h
  rw [eval_ListComp]
  have hfree : ∀ y ∈ scope.names, y.2 = .free → ∃ c, X.env.cells.lookup y.1 = some c := fun y hy e => I.ok.has _ (S.frees.mem y hy e)
  refine wpAny_comprehension_free (use := none) rfl hs (closureFor_eq hfree) S.kind S.names (thn (hi pins s σ H _ I h) fun v s1 h1 => thn h1 fun itv s2 h2 => ?_)
  obtain ⟨it, fp, tn, J, H2, e, I2, T, st2, f2, hW⟩ := h2
  subst e
  -- the new list
  refine wpAny_newList ?_
  have hD : H2 s2.heap.objs.size = none := I2.fresh
  have I3 := I2.lnew (its := []) (ys := []) (t' := s2.toks) .nil (Nat.zero_le _)
  have k3 : ∀ b o, s2.heap.get? b = some o → (s2.heap.push { cls := .type "list", data := .seq ([] : List Value).toArray }).get? b = some o := fun b o q => Heap.get?_push_of_some _ q
  have st3 : tn 0 (s2.heap.push { cls := .type "list", data := .seq ([] : List Value).toArray }) := T.keep _ _ _ st2 fun b _ o q => k3 b o q
  have lt2 : ∀ b ∈ fp, b < s2.heap.objs.size := fun b hb => let ⟨o, q, _⟩ := T.obj _ _ st2 b hb; Heap.lt_size q
  have neD : ∀ b ∈ fp, b ≠ s2.heap.objs.size := fun b hb => Nat.ne_of_lt (lt2 b hb)
  have f3 : ∀ b ∈ fp, FpOk X pins (upd H2 s2.heap.objs.size (.lst [])) b := fun b hb => ⟨by rw [upd_ne (neD b hb)]; exact (f2 b hb).1, (f2 b hb).2⟩
  obtain ⟨W, ⟨m0, w0⟩, turn⟩ := hW _ hD
  generalize eD : s2.heap.objs.size = D at *
  generalize eH : upd H2 D (.lst []) = H3 at *
  generalize eh : s2.heap.push { cls := .type "list", data := .seq ([] : List Value).toArray } = hp3 at *
  have I3' : Inv X pins σ H3 { s2 with heap := hp3 } := I3
  -- the block's frame
  refine wpAny_newFunctionEnv S.nocell (fun y hy => by simp at hy) (fun h1 hns hsb => ?_) S.kind
  have kb : ∀ b o, hp3.get? b = some o → h1.get? b = some o := fun b o q => hsb.extBut b o (Nat.ne_of_lt (Heap.lt_size q)) (Heap.get?_push_of_some _ q)
  have lt3 : ∀ b ∈ fp, b < hp3.objs.size := fun b hb => let ⟨o, q, _⟩ := T.obj _ _ st3 b hb; Heap.lt_size q
  have IB := Inv.block (s := { s2 with heap := hp3 }) (h1 := h1) (tk := s2.toks) I3' S f3 hns kb lt3
  have stB : tn 0 h1 := T.keep _ _ _ st3 fun b _ o q => kb b o q
  have back : ∀ {σ' : St} {H' : Hp} {s' : Shared} {h' : Heap}, Inv (cxB X scope hp3.objs.size (capN own caps) { s2 with heap := hp3 } H3 fp) [] σ' H' s' → Heap.SameBut hp3.objs.size s'.heap h' → Inv X pins σ H' { s' with heap := h' } := fun {σ' H' s' h'} J hsm => by
    have nC : ∀ b o, H' b = some o → b ≠ hp3.objs.size := fun b o q z => by
      have := J.free
      rw [z] at q
      have q2 : H' hp3.objs.size = none := this
      rw [q] at q2; cases q2
    have hok : HOk X.prog X.w H' h' := fun b o q => (J.hok b o q).stay (fun c v hc z => hsm.extBut c v (by
      rcases hc with hc | hc
      · rw [hc]; exact nC b o q
      · exact nC c _ hc) z) (fun _ z => z) fun _ _ z => z
    have nb : ∀ b o, hp3.get? b = some o → b ≠ hp3.objs.size := fun b o q => Nat.ne_of_lt (Heap.lt_size q)
    have un : Un (frs X.stack) fp H3 H' hp3 h' := ⟨fun b o q n hb hx => hsm.extBut b o (nb b o q) (J.base.keep b o q n hb hx), fun b o q n hb hx => by
        obtain ⟨sl, z⟩ := J.base.slot b o q n hb hx
        exact ⟨sl, hsm.extBut b _ (nb b o q) z⟩, J.base.free, fun b o q hx => by
        obtain ⟨o', z⟩ := J.base.there b o q hx
        exact ⟨o', hsm.extBut b _ (nb b o q) z⟩, J.base.tups, J.base.frzs, J.base.tbls⟩
    have os := J.os
    have bare := J.bare
    obtain ⟨hh, g, d, t, os'⟩ := s'
    obtain rfl : os' = s2.os := os
    show Inv X pins σ H' { ({ s2 with heap := hp3 } : Shared) with heap := h', gens := g, drawn := d, toks := t }
    exact I3'.call (h' := h') (g' := g) (d' := d) (t' := t) (ch := fp) un hok bare fun b hb => ⟨(f3 b hb).2.2.2.1, (f3 b hb).2.1, (f3 b hb).2.2.2.2.1, (f3 b hb).2.2.2.2.2⟩
  have statB : ∀ {H' : Hp}, (∀ b ∈ fp, H' b = none) → ∀ b ∈ fp, FpOk (cxB X scope hp3.objs.size (capN own caps) { s2 with heap := hp3 } H3 fp) [] H' b := fun hn b hb =>
    ⟨hn b hb, Nat.ne_of_lt (lt3 b hb), fun z => (IB.ok.exfs b hb) z, .inl hb, (IB.ok.exf b hb).2, fun p hp => absurd (show p ∈ ([] : List (Addr × Obj)) from hp) (by simp)⟩
  have loop : ∀ s₃ : Shared, s₃ = { s2 with heap := h1, toks := s2.toks } → codeAny (model X.prog X.w) X.A (.compLoop (.ListComp elt [⟨tg, iter, ifs, 0⟩] scope pos) 0 (.ref it) (.ref D) (compEnvC scope (clos X.env scope.names []) hp3.objs.size X.env))
      (compPost (model X.prog X.w) X.A X.xe none (EP X pins σ Q) (.ref D) hp3.objs.size) s₃ := by
    rintro s₃ rfl
    refine compLoop_any (fun n s' => ∃ i σ' H', Inv (cxB X scope hp3.objs.size (capN own caps) { s2 with heap := hp3 } H3 fp) [] σ' H' s' ∧ tn i s'.heap ∧ (∀ b ∈ fp, H' b = none) ∧ W i n σ' H') ?_ m0 ⟨0, capS own caps σ, H3, IB, stB, fun b hb => (f3 b hb).1, w0⟩
    rintro n s3 ⟨i, σ3, H4, I4, st4, fr4, w4⟩
    rcases turn i n σ3 H4 w4 with ⟨stop, qn⟩ | ⟨go, N, hN, step⟩
    · refine thn (T.done (cxB X scope hp3.objs.size (capN own caps) { s2 with heap := hp3 } H3 fp) rfl rfl rfl hc i [] s3 σ3 H4 _ I4 (statB fr4) st4 stop) fun r s4 ⟨hr, I5⟩ => ?_
      subst hr
      obtain ⟨m, hn, _⟩ := I5.loc
      exact ⟨m, hn, fun h' hsm => ⟨.ref D, H4, back I5 hsm, rfl, qn⟩⟩
    · refine thn (T.item (cxB X scope hp3.objs.size (capN own caps) { s2 with heap := hp3 } H3 fp) rfl rfl rfl hc i [] s3 σ3 H4 (fun _ _ => False) I4 (statB fr4) st4 go) fun r s4 ⟨u, hr, h4⟩ => ?_
      subst hr
      refine thn h4 fun _ s5 ⟨x, H5, I5, r5, y5, st5, fr5⟩ => ?_
      have I5' := I5.pinned (statB fr5) (T.obj _ _ st5)
      refine thn (hg hp3.objs.size { s2 with heap := hp3 } H3 fp _ s5 σ3 H5 x u _ I5' r5 (step x H5 y5)) fun _ s6 ⟨σ6, H6, I6, q6⟩ => ?_
      refine thn (ht hp3.objs.size { s2 with heap := hp3 } H3 fp _ s6 σ6 H6 _ I6 q6) fun ok s7 ⟨H7, I7, q7⟩ => ?_
      have again : ∀ {σ7 : St} {H7 : Hp} {s7 : Shared}, Inv (cxB X scope hp3.objs.size (capN own caps) { s2 with heap := hp3 } H3 fp) ([] ++ pinsAt fp s5.heap) σ7 H7 s7 → N σ7 H7 → ∃ m, m < n ∧ ∃ i σ' H', Inv (cxB X scope hp3.objs.size (capN own caps) { s2 with heap := hp3 } H3 fp) [] σ' H' s7 ∧ tn i s7.heap ∧ (∀ b ∈ fp, H' b = none) ∧ W i m σ' H' := fun {σ7 H7 s7} I7 n7 => by
        obtain ⟨m', hm, w7⟩ := hN σ7 H7 n7
        refine ⟨m', hm, i + 1, σ7, H7, I7.unpinned, T.keep _ _ _ st5 fun b hb o e => (I7.pin (b, o) (List.mem_append_right _ (List.mem_append_right _ (mem_pinsAt hb e)))).1, fun b hb => ?_, w7⟩
        obtain ⟨o, e, d⟩ := T.obj _ _ st5 b hb
        exact (I7.pin (b, o) (List.mem_append_right _ (List.mem_append_right _ (mem_pinsAt hb e)))).2.1
      cases ok with
      | false =>
        rw [if_neg (by decide)]
        rw [if_neg (by decide)] at q7
        exact again I7 q7
      | true =>
        rw [if_pos rfl]
        rw [if_pos rfl] at q7
        refine thn (he hp3.objs.size { s2 with heap := hp3 } H3 fp _ s7 σ6 H7 _ I7 q7) fun y s8 ⟨yv, H8, I8, r8, ys, e8, z8, n8⟩ => ?_
        refine thn (mt_append (X := cxB X scope hp3.objs.size (capN own caps) { s2 with heap := hp3 } H3 fp) _ s8 σ6 H8 (.ref D) [yv] (.ref D) [y] (fun _ H' => N σ6 H') I8 rfl (.cons r8 .nil) ⟨D, ys, yv, rfl, rfl, e8, z8, n8⟩) fun _ s9 ⟨v9, H9, I9, _, q9⟩ => ?_
        exact again I9 q9
  exact codeAny_compStart_list (loop _ rfl) (T.self _ 0 _ _ _ stB (loop _ rfl))
end
end L2
end
section
set_option Elab.async false
set_option linter.all false
set_option maxRecDepth 100000
set_option maxHeartbeats 4000000
namespace L2
open PySem PySem.Spec PyProof.Rows
/-! ### plain data: flat values and tuples of plain data -/
inductive D where
  | at (v : V)
  | tup (ds : List D)
mutual
def DatAt (K : PySem.W.Frag) (H : Hp) : D → V → Prop
  | .at x, v => v = x ∧ flatV x = true
  | .tup ds, v => ∃ a xs, v = .ref a ∧ SqT K H a xs ∧ DatsAt K H ds xs
def DatsAt (K : PySem.W.Frag) (H : Hp) : List D → List V → Prop
  | [], xs => xs = []
  | d :: ds, xs => ∃ x r, xs = x :: r ∧ DatAt K H d x ∧ DatsAt K H ds r
end
mutual
def D.depth : D → Nat
  | .at _ => 0
  | .tup ds => depths ds + 1
def depths : List D → Nat
  | [] => 0
  | d :: ds => max d.depth (depths ds)
end
theorem Same.tup {K : PySem.W.Frag} {H H' : Hp} {a : Addr} {xs : List V} (e : Same H H') (h : SqT K H a xs) : SqT K H' a xs := by
  rcases h with (h | ⟨o, h⟩) | h
  · exact .inl (.inl (e _ _ h))
  · exact .inl (.inr ⟨o, e _ _ h⟩)
  · exact .inr h
mutual
theorem DatAt.same {K : PySem.W.Frag} {H H' : Hp} (e : Same H H') : ∀ {d : D} {v : V}, DatAt K H d v → DatAt K H' d v
  | .at x, v, h => h
  | .tup ds, v, h => by
    obtain ⟨a, xs, e1, e2, e3⟩ := h
    exact ⟨a, xs, e1, e.tup e2, DatsAt.same e e3⟩
theorem DatsAt.same {K : PySem.W.Frag} {H H' : Hp} (e : Same H H') : ∀ {ds : List D} {xs : List V}, DatsAt K H ds xs → DatsAt K H' ds xs
  | [], xs, h => h
  | d :: ds, xs, h => by
    obtain ⟨x, r, e1, e2, e3⟩ := h
    exact ⟨x, r, e1, DatAt.same e e2, DatsAt.same e e3⟩
end
section
variable {X : Cx} {pins : List (Addr × Obj)} {σ : St} {H : Hp} {s : Shared}
end
end L2
end
section
set_option Elab.async false
set_option linter.all false
set_option maxRecDepth 100000
set_option maxHeartbeats 4000000
namespace PySem.SeqAt
open AutoSeq1 (wpAny_loadPart')
open MeetsSeq MeetsSeq2 MeetsSeq3 SeqRoads2
theorem wpAny_forIn_upto {M : Model} {A : Around} {E : Value → Shared → Prop} {s : Shared} {β : Type} {n : Nat} (f : Nat → β → Sem (ForInStep β)) (I : Nat → β → Shared → Prop) (Q : β → Shared → Prop)
    (turn : ∀ i b s, i < n → I i b s → wpAny M A (f i b) (fun r s' => match r with | .yield b' => I (i + 1) b' s' | .done b' => Q b' s') E s)
    (fin : ∀ b s, I n b s → Q b s) (b : β) (h : I 0 b s) : wpAny M A (forIn ([:n] : Std.Legacy.Range) b f) Q E s := by
  rw [Std.Legacy.Range.forIn_eq_forIn_range']
  simp only [Std.Legacy.Range.size, Nat.sub_zero, Nat.add_sub_cancel, Nat.div_one]
  refine wpAny_forIn_list f (fun rest b s' => ∃ i, rest = List.range' i (n - i) ∧ i ≤ n ∧ I i b s') Q ?_ ?_ _ _ ⟨0, by simp, Nat.zero_le _, h⟩
  · rintro x rest b s' ⟨i, hr, hi, hI⟩
    have hlt : i < n := by
      rcases Nat.lt_or_ge i n with q | q
      · exact q
      · rw [Nat.sub_eq_zero_of_le q] at hr; simp at hr
    obtain ⟨rfl, hrest⟩ : x = i ∧ rest = List.range' (i + 1) (n - (i + 1)) := by
      rw [show n - i = (n - (i + 1)) + 1 by omega, List.range'_succ] at hr
      injection hr with h1 h2
      exact ⟨h1, h2⟩
    refine wpAny_mono (turn x b s' hlt hI) (fun r s2 hr2 => ?_) fun _ _ z => z
    cases r with
    | done b' => exact hr2
    | yield b' => exact ⟨x + 1, hrest, hlt, hr2⟩
  · rintro b s' ⟨i, hr, hi, hI⟩
    have : i = n := by
      rcases Nat.lt_or_ge i n with q | q
      · rw [show n - i = (n - (i + 1)) + 1 by omega, List.range'_succ] at hr; cases hr
      · omega
    subst this
    exact fin _ _ hI
theorem tuple_indexAt (l : Addr) (items : Array Value) (n : Nat) (dd : Option Addr) (sl : Array (Option Value)) (x : Value) (e : Value → Bool) (j : Nat) (hj : j < items.size)
    (hit : e items[j] = true) (hno : ∀ m (hm : m < items.size), m < j → e items[m] = false) :
    Meets (Builtin.«tuple.index» ⟨[.ref l, x], []⟩)
      (fun A R s => s.heap.get? l = some { cls := .type "tuple", dict := dd, data := .seq items n, slots := sl } ∧ (∀ y, y ∈ items → EqAt A.in1 s y x (e y)) ∧ R (.ok (.ret (.int j s.toks))) { s with toks := s.toks + 1 }) :=
  .of_wp fun prog w A R s h => by
    obtain ⟨hp, g, d, tk, os⟩ := s; obtain ⟨hl, he, h⟩ := h
    wp_walk using wpAny_loadPart' hl, wpAny_forIn_upto (n := min items.size items.size) _ (fun i b s' => b.1 = none ∧ i ≤ j ∧ s' = ⟨hp, g, d, tk, os⟩) _
    case turn =>
      rintro i b s' hi ⟨hb, hij, rfl⟩
      have hi' : i < items.size := by omega
      rw [Array.getElem?_eq_getElem hi']
      refine wpAny_bind (he _ (Array.getElem_mem hi') prog w _ _ ?_)
      by_cases ij : i = j
      · subst ij
        rw [hit]
        wp_walk
        exact ⟨_, rfl, h⟩
      · rw [hno i hi' (by omega)]
        wp_walk
        exact ⟨rfl, by omega, rfl⟩
    case fin =>
      rintro b s' ⟨hb, hij, rfl⟩
      omega
    case h =>
      exact ⟨rfl, Nat.zero_le _, rfl⟩
end PySem.SeqAt
namespace L2
open PySem PySem.Spec PyProof.Rows
section
variable {X : Cx}
def rIndexT (K : PySem.W.Frag) : V → List V → Hp → VK → Prop := fun x vs H Q => ∃ a xs y j z, x = .ref a ∧ vs = [y] ∧ SqT K H a xs ∧ flatV y = true ∧ xs.all flatV = true ∧ xs[j]? = some z ∧ eqV z y = true ∧ (∀ i z, i < j → xs[i]? = some z → eqV z y = false) ∧ Q (.int (j : Nat)) H
theorem mt_indexT : MtR X "tuple.index" (rIndexT X.K) := by
  intro pins s σ H x vs v us Q I rx rv h
  obtain ⟨a, xs, y, j, z, rfl, rfl, hS, fy, fs, ej, ez, hno, q⟩ := h
  obtain rfl : v = Value.ref a := rx
  obtain ⟨u, rfl, ru⟩ := rv.one
  obtain ⟨its, r, pl, _⟩ := I.tuple hS
  have eqs := mem_eqAt (A := X.A.in1) (s := s) ru fy r fs
  obtain ⟨w, ew, rw'⟩ := r.get ej
  have hj : j < its.length := (List.getElem?_eq_some_iff.mp ew).1
  obtain ⟨ob, eo, hc, nn, hd⟩ := pl
  obtain ⟨cls, dd, data, sl⟩ := ob
  simp only at hc hd
  subst hc hd
  have flat_at : ∀ {i : Nat} {z : V}, xs[i]? = some z → flatV z = true := fun {i z} e => by
    exact List.all_eq_true.mp fs z (List.mem_of_getElem? e)
  refine call_meets F.slot_tuple_index ⟨_, eo, rfl⟩ F.entry_tuple_index (F.args_tuple_index_2 _ _) (SeqAt.tuple_indexAt a its.toArray nn dd sl u (eqU y) j (by simpa using hj) ?_ ?_) ⟨eo, fun w hw => eqs w (by simpa using hw), ?_⟩
  · have : its[j] = w := (List.getElem?_eq_some_iff.mp ew).2
    show eqU y its[j] = true
    rw [this, eqU_of rw' (flat_at ej)]
    exact ez
  · intro m hm hmj
    have hm' : m < its.length := by simpa using hm
    have hx : m < xs.length := by rw [r.length]; exact hm'
    obtain ⟨w', ew', r'⟩ := r.get (List.getElem?_eq_getElem hx)
    have : its[m] = w' := (List.getElem?_eq_some_iff.mp ew').2
    show eqU y its[m] = false
    rw [this, eqU_of r' (flat_at (List.getElem?_eq_getElem hx))]
    exact hno m _ hmj (List.getElem?_eq_getElem hx)
  · exact ⟨.int (j : Nat), H, I.tok _, ⟨_, rfl⟩, q⟩
end
end L2
end
section
set_option Elab.async false
set_option linter.all false
set_option maxRecDepth 100000
set_option maxHeartbeats 4000000
namespace L2
open PySem PySem.Spec PyProof.Rows
/-! ### a def of the text by its name and its promise -/
structure FnAt (P : Program) (w : World) (K : PySem.W.Frag) (mg : Str → Option Value) (base : Heap) (CX : CXT) (k : Nat) (x : Str) (sp : Sp) : Prop where
  ex : ∃ (f : Addr) (fd : FuncData) (ps : List Str), mg x = some (.ref f) ∧ PySem.W.keepIn K (.ref f) = true ∧ FnOk P w K mg base CX k f fd ps sp ∧ Binds K fd ps []
theorem FnAt.mono {P : Program} {w : World} {K : PySem.W.Frag} {mg : Str → Option Value} {base : Heap} {CX : CXT} {j k : Nat} {x : Str} {sp : Sp} (h : FnAt P w K mg base CX j x sp) (hk : j ≤ k) : FnAt P w K mg base CX k x sp :=
  ⟨let ⟨f, fd, ps, a, b, c, d⟩ := h.ex; ⟨f, fd, ps, a, b, c.mono hk, d⟩⟩
theorem FnAt.imp {P : Program} {w : World} {K : PySem.W.Frag} {mg : Str → Option Value} {base : Heap} {CX : CXT} {k : Nat} {x : Str} {sp sp' : Sp} (h : FnAt P w K mg base CX k x sp) (hs : ∀ vs H Q E, sp' vs H Q E → sp vs H Q E) : FnAt P w K mg base CX k x sp' :=
  ⟨let ⟨f, fd, ps, a, b, c, d⟩ := h.ex; ⟨f, fd, ps, a, b, c.imp hs, d⟩⟩
def tFn (sp : Sp) (E : XK) (t : TA) : TE := fun σ H Q => t σ H fun vs H1 => sp vs H1 Q E
section
variable {X : Cx} {CX : CXT} {k : Nat} {sp : Sp} {E : XK} {x : Str} {p pos : Pos} {e : Expr} {es : List Expr} {t : TA}
theorem pe_fn (h : FnAt X.prog X.w X.K X.mg X.base CX k x sp) (hr : Room k X.A) (hg : Gl X x) (hx : Passes CX X E) (ha : PA X (e :: es) t) (hdb : (x == ("__debug__" : Str)) = false := by decide)
    (he : starEach (e :: es) X.env = (false, eval e X.env) :: starEach es X.env := by rfl) (hpl : (backTo pos (starEach es X.env)).any (·.1) = false := by rfl) : PE X (.Call (.Name x p) (e :: es) [] pos) (tFn sp E t) := by
  obtain ⟨f, fd, ps, hm, hk, F, hb⟩ := h.ex
  intro pins s σ H Q I hq
  refine pe_call (dvs := []) (ds := []) F hr hg hm hk hb .nil hx ha hdb he hpl pins s σ H Q I ?_
  have e0 : (fun (vs : List V) (H1 : Hp) => sp (vs ++ []) H1 Q E) = fun vs H1 => sp vs H1 Q E := by funext vs H1; rw [List.append_nil]
  show t σ H (fun vs H1 => sp (vs ++ []) H1 Q E)
  rw [e0]
  exact hq
end
/-- a class or an object of the top -/
theorem pe_globR {X : Cx} {x : Str} {a : Addr} {pos : Pos} (hg : Gl X x) (hm : X.mg x = some (.ref a)) (hd : (x == ("__debug__" : Str)) = false := by decide) : PE X (.Name x pos) (tC (.ref a)) := pe_glob (v := .ref a) hg hm rfl hd
/-- a tuple of the top -/
def TopT (K : PySem.W.Frag) (a : Addr) (xs : List V) : Prop := ∃ (o : Obj) (its : Array Value) (n : Nat), K.lookup a = some o ∧ o.cls = .type "tuple" ∧ o.dict = none ∧ o.data = .seq its n ∧ its.size ≤ sizeLine ∧ Vals xs its.toList
theorem TopT.sq {K : PySem.W.Frag} {a : Addr} {xs : List V} (h : TopT K a xs) (H : Hp) : SqT K H a xs := let ⟨o, its, n, h1, h2, _, h3, h4, h5⟩ := h; .inr ⟨o, its, n, h1, h2, h3, h4, h5⟩
theorem TopT.ty {K : PySem.W.Frag} {a : Addr} {xs : List V} (h : TopT K a xs) (H : Hp) : tyV K "tuple" (.ref a) H := let ⟨o, its, n, h1, h2, h0, h3, h4, h5⟩ := h; .inr (.inl ⟨rfl, o, h1, h2, h0⟩)
/-! ### a new instance whose __init__ stores its arguments -/
def newI (H : Hp) (x dx C : Addr) (fs : List (Str × V)) : Hp := upd (upd H dx (.own x)) x (.ins C dx fs)
theorem newI_at {H : Hp} {x dx C : Addr} {fs : List (Str × V)} : newI H x dx C fs x = some (.ins C dx fs) := upd_same
theorem newI_same {H : Hp} {x dx C : Addr} {fs : List (Str × V)} (hx : H x = none) (hd : H dx = none) : Same H (newI H x dx C fs) := fun b o e => by
  unfold newI
  rw [upd_ne (ne_of_none e hx), upd_ne (ne_of_none e hd)]
  exact e
theorem same_upd {H : Hp} {p : Addr} (h : H p = none) (o : HO) : Same H (upd H p o) := fun b u q => by rw [upd_ne (ne_of_none q h)]; exact q
def tNew (C : Addr) (fs : List Str) (t : TA) : TE := fun σ H Q => t σ H fun vs H1 => vs.length = fs.length ∧ ∀ x dx, H1 x = none → H1 dx = none → dx ≠ x → Q (.ref x) (newI H1 x dx C (fs.zip vs))
def spNew (C : Addr) (fs : List Str) : Sp := fun vs H Q _ => ∃ p dx r, vs = .ref p :: r ∧ r.length = fs.length ∧ H p = some (.ins C dx []) ∧ Q .non (upd H p (.ins C dx (fs.zip r)))
structure NewAt (P : Program) (w : World) (K : PySem.W.Frag) (mg : Str → Option Value) (base : Heap) (x : Str) (C : Addr) (fs : List Str) : Prop where
  glob : mg x = some (.ref C)
  cl : Cls K C
  ex : ∃ (f : Addr) (fd : FuncData) (ps : List Str), Mk K C f ∧ FnOk P w K mg base CX0 1 f fd ps (spNew C fs) ∧ Binds K fd ps []
section
variable {X : Cx} {C : Addr} {fs : List Str} {x : Str} {p pos : Pos} {e : Expr} {es : List Expr} {t : TA} {k : Nat}
theorem pe_new (h : NewAt X.prog X.w X.K X.mg X.base x C fs) (hr : Room (k + 2) X.A) (hg : Gl X x) (ha : PA X (e :: es) t) (hdb : (x == ("__debug__" : Str)) = false := by decide)
    (he : starEach (e :: es) X.env = (false, eval e X.env) :: starEach es X.env := by rfl) (hpl : (backTo pos (starEach es X.env)).any (·.1) = false := by rfl) : PE X (.Call (.Name x p) (e :: es) [] pos) (tNew C fs t) := by
  obtain ⟨f, fd, ps, M, F, hb⟩ := h.ex
  intro pins s σ H Q I hq
  refine wpAny_Call_Name_kw (ld_glob I hg h.glob ?_ hdb)
  refine PySem.W.callWith_K (h₀ := X.base) I.ok.mod.kin M.kp (thn (ha pos pins s σ H _ I hq) fun us s1 ⟨vs, H1, I1, r, hl, q⟩ => ⟨I1.kIn, ?_⟩) he hpl
  refine run_make (dvs := []) (ds := []) (E := E0) M F (hr.mono (Nat.le_add_left 2 k)) hb .nil pass0 I1 r fun x dx n1 n2 ne => ?_
  refine ⟨x, dx, vs ++ [], rfl, by rw [List.append_nil]; exact hl, upd_same, rfl, ?_⟩
  rw [List.append_nil, upd_upd]
  exact q x dx n1 n2 ne
end
/-! ### __init__ that stores its arguments: one, two, three fields -/
section
variable {P : Program} {w : World} {K : PySem.W.Frag} {mg : Str → Option Value} {base : Heap} {C f : Addr} {fd : FuncData} {qual : Str} {st : Stmt}
theorem init_ok1 {a : Str} {p1 p2 p3 p4 : Pos} (F : Fun K "__init__" qual st f fd) (hb : defBody st = [.Assign [.Attribute (.Name "self" p1) a p2] (.Name a p3) p4]) (S : FnScope ["self", a] ["self", a] (defScope st))
    (cl : Cls K C) (na : NoAttr K C a) (hd : (a == ("__debug__" : Str)) = false) (hcd : (a == ("__classdict__" : Str)) = false) : FnOk P w K mg base CX0 1 f fd ["self", a] (spNew C [a]) := by
  refine F.ok S (fun vs H Q E h => ?_) (fun cdv A outer s H vs Q E hr h => ?_)
  · obtain ⟨p, dx, r, rfl, hl, _⟩ := h
    match r, hl with | [_], _ => rfl
  · obtain ⟨p, dx, r, rfl, hl, hp, q⟩ := h
    match r, hl with
    | [v], _ =>
      have vis : ∀ x ∈ (["self", a] : List Str), Vis (defScope st) x := fun x hx => (S.par x hx).elim (fun z => .inl z) fun z => .inr (.inl z)
      rw [hb]
      refine ⟨_, pss_one (ps_fld (pe_var (i := 0) rfl (vis "self" (by simp))) (pe_var (i := 1) rfl (vis a (by simp)) hd hcd) rfl), ?_⟩
      exact ⟨v, rfl, _, rfl, p, C, dx, [], rfl, hp, cl, na, by show 0 < 1000; decide, q⟩
theorem init_ok2 {a b : Str} {p1 p2 p3 p4 q1 q2 q3 q4 : Pos} (F : Fun K "__init__" qual st f fd) (hb : defBody st = [.Assign [.Attribute (.Name "self" p1) a p2] (.Name a p3) p4, .Assign [.Attribute (.Name "self" q1) b q2] (.Name b q3) q4])
    (S : FnScope ["self", a, b] ["self", a, b] (defScope st)) (cl : Cls K C) (na : NoAttr K C a) (nb : NoAttr K C b) (hd : (a == ("__debug__" : Str)) = false) (hcd : (a == ("__classdict__" : Str)) = false)
    (hd' : (b == ("__debug__" : Str)) = false) (hcd' : (b == ("__classdict__" : Str)) = false) (ab : ¬ a = b) : FnOk P w K mg base CX0 1 f fd ["self", a, b] (spNew C [a, b]) := by
  refine F.ok S (fun vs H Q E h => ?_) (fun cdv A outer s H vs Q E hr h => ?_)
  · obtain ⟨p, dx, r, rfl, hl, _⟩ := h
    match r, hl with | [_, _], _ => rfl
  · obtain ⟨p, dx, r, rfl, hl, hp, q⟩ := h
    match r, hl with
    | [v, u], _ =>
      have vis : ∀ x ∈ (["self", a, b] : List Str), Vis (defScope st) x := fun x hx => (S.par x hx).elim (fun z => .inl z) fun z => .inr (.inl z)
      rw [hb]
      refine ⟨_, pss_cons (ps_fld (pe_var (i := 0) rfl (vis "self" (by simp))) (pe_var (i := 1) rfl (vis a (by simp)) hd hcd) rfl) (pss_one (ps_fld (pe_var (i := 0) rfl (vis "self" (by simp))) (pe_var (i := 2) rfl (vis b (by simp)) hd' hcd') rfl)), ?_⟩
      refine ⟨v, rfl, _, rfl, p, C, dx, [], rfl, hp, cl, na, (by show 0 < 1000; decide), u, rfl, _, rfl, p, C, dx, _, rfl, upd_same, cl, nb, (by show 1 < 1000; decide), ?_⟩
      have e : putF b u (putF a v []) = [(a, v), (b, u)] := by
        show (if a = b then _ else (a, v) :: putF b u []) = _
        rw [if_neg ab]
        rfl
      rw [upd_upd, e]
      exact q
theorem init_ok3 {a b c : Str} {p1 p2 p3 p4 q1 q2 q3 q4 r1 r2 r3 r4 : Pos} (F : Fun K "__init__" qual st f fd) (hb : defBody st = [.Assign [.Attribute (.Name "self" p1) a p2] (.Name a p3) p4, .Assign [.Attribute (.Name "self" q1) b q2] (.Name b q3) q4, .Assign [.Attribute (.Name "self" r1) c r2] (.Name c r3) r4])
    (S : FnScope ["self", a, b, c] ["self", a, b, c] (defScope st)) (cl : Cls K C) (na : NoAttr K C a) (nb : NoAttr K C b) (nc : NoAttr K C c) (hd : (a == ("__debug__" : Str)) = false) (hcd : (a == ("__classdict__" : Str)) = false)
    (hd' : (b == ("__debug__" : Str)) = false) (hcd' : (b == ("__classdict__" : Str)) = false) (hd'' : (c == ("__debug__" : Str)) = false) (hcd'' : (c == ("__classdict__" : Str)) = false) (ab : ¬ a = b) (ac : ¬ a = c) (bc : ¬ b = c) : FnOk P w K mg base CX0 1 f fd ["self", a, b, c] (spNew C [a, b, c]) := by
  refine F.ok S (fun vs H Q E h => ?_) (fun cdv A outer s H vs Q E hr h => ?_)
  · obtain ⟨p, dx, r, rfl, hl, _⟩ := h
    match r, hl with | [_, _, _], _ => rfl
  · obtain ⟨p, dx, r, rfl, hl, hp, q⟩ := h
    match r, hl with
    | [v, u, z], _ =>
      have vis : ∀ x ∈ (["self", a, b, c] : List Str), Vis (defScope st) x := fun x hx => (S.par x hx).elim (fun z => .inl z) fun z => .inr (.inl z)
      have e : putF b u (putF a v []) = [(a, v), (b, u)] := by
        show (if a = b then _ else (a, v) :: putF b u []) = _
        rw [if_neg ab]
        rfl
      rw [hb]
      refine ⟨_, pss_cons (ps_fld (pe_var (i := 0) rfl (vis "self" (by simp))) (pe_var (i := 1) rfl (vis a (by simp)) hd hcd) rfl) (pss_cons (ps_fld (pe_var (i := 0) rfl (vis "self" (by simp))) (pe_var (i := 2) rfl (vis b (by simp)) hd' hcd') rfl) (pss_one (ps_fld (pe_var (i := 0) rfl (vis "self" (by simp))) (pe_var (i := 3) rfl (vis c (by simp)) hd'' hcd'') rfl))), ?_⟩
      refine ⟨v, rfl, _, rfl, p, C, dx, [], rfl, hp, cl, na, (by show 0 < 1000; decide), u, rfl, _, rfl, p, C, dx, _, rfl, upd_same, cl, nb, (by show 1 < 1000; decide), z, rfl, _, rfl, p, C, dx, _, rfl, upd_same, cl, nc, ?_, ?_⟩
      · rw [e]; show 2 < 1000; decide
      · have e' : putF c z [(a, v), (b, u)] = [(a, v), (b, u), (c, z)] := by
          show (if a = c then _ else (a, v) :: (if b = c then _ else (b, u) :: putF c z [])) = _
          rw [if_neg ac, if_neg bc]
          rfl
        rw [upd_upd, upd_upd, e, e']
        exact q
end
end L2
end
section
set_option Elab.async false
set_option linter.all false
set_option maxRecDepth 100000
set_option maxHeartbeats 4000000
namespace L2
open PySem PySem.Spec PyProof.Rows
/-- an iterator over known values that new objects don't change -/
structure Walks1 (J : It) (H1 : Hp) (xs : List V) : Prop where
  go : ∀ i x H', xs[i]? = some x → Same H1 H' → J.go i H'
  yld : ∀ i x y H' H2, xs[i]? = some x → Same H1 H' → J.yld i H' y H2 → H2 = H' ∧ y = x
  stop : ∀ H', Same H1 H' → J.stop xs.length H'
def rngV (lo : Int) (n : Nat) : List V := (List.range n).map fun (i : Nat) => V.int (lo + (i : Int))
theorem rngV_at {lo : Int} {n i : Nat} (h : i < n) : (rngV lo n)[i]? = some (.int (lo + (i : Int))) := by
  unfold rngV
  rw [List.getElem?_map, List.getElem?_range h]
  rfl
theorem rngV_len {lo : Int} {n : Nat} : (rngV lo n).length = n := by unfold rngV; simp
end L2
end
section
set_option Elab.async false
set_option linter.all false
set_option maxRecDepth 100000
set_option maxHeartbeats 4000000
namespace L2
open PySem PySem.Spec PyProof.Rows
/-! ### what the top has written, in bundles -/
structure ClsF (K : PySem.W.Frag) (C : Addr) : Prop where
  pg : PySem.W.plainGet K C Str.empty = true
  hd : PySem.W.hasDictIn K C = true
  po : PySem.W.plainOver K C = true
  sa : PySem.W.findIn K (.ref C) "__setattr__" = some (some (.builtin "object.__setattr__"))
  ca : PySem.W.findIn K (.ref C) "__class__" = some (some (.builtin "object.__class__"))
  cs : PySem.W.specialIn K (.builtin "object.__class__") "__get__" = some (some (.builtin "getset_descriptor.__get__"))
  ct : PySem.W.takesIn K (.builtin "object.__class__") = some true
  cm : PySem.W.mroIn K C (.type "object") = some true
  mks : PySem.W.makesIn K C = true
  kp : PySem.W.keepIn K (.ref C) = true
theorem ClsF.cls {K : PySem.W.Frag} {C : Addr} (h : ClsF K C) : Cls K C := ⟨h.pg, h.hd, h.po, h.sa⟩
theorem ClsF.ty {K : PySem.W.Frag} {C : Addr} (h : ClsF K C) {H : Hp} {a dx : Addr} {fs : List (Str × V)} (e : H a = some (.ins C dx fs)) : TyOf K H (.ref a) (.ref C) := .ins e h.cls h.ca h.cs h.ct h.cm
def FnF (K : PySem.W.Frag) (f : Addr) (x qual : Str) (st : Stmt) : Prop := ∃ fd, Fun K x qual st f fd
theorem fnf_mk {K : PySem.W.Frag} {x qual : Str} {st : Stmt} {f : Addr} {oc : Value} {od an : Option Addr} {osl : Array (Option Value)} {kV doc pm cdv ct : Value} (l : K.lookup f = some ⟨oc, od, .func (PySem.W.fnOf x qual (defArgs st) (defBody st) (defScope st) .none kV doc pm an cdv ct), osl⟩)
    (c : PySem.W.codeIn K cdv qual = true) (k : PySem.W.keepIn K (.ref f) = true) : FnF K f x qual st := ⟨_, fun_mk l c k⟩
theorem topT_mk {K : PySem.W.Frag} {a : Addr} {its : Array Value} {n : Nat} {sl : Array (Option Value)} {xs : List V} (l : K.lookup a = some ⟨.type "tuple", none, .seq its n, sl⟩) (hs : its.size ≤ sizeLine) (hv : Vals xs its.toList) : TopT K a xs :=
  ⟨_, its, n, l, rfl, rfl, rfl, hs, hv⟩
/-- a def that can't be asked anything -/
theorem fn_none {P : Program} {w : World} {K : PySem.W.Frag} {mg : Str → Option Value} {base : Heap} {CX : CXT} {k : Nat} {f : Addr} {fd : FuncData} {ps : List Str} {sp : Sp} (no : ∀ vs H Q E, ¬ sp vs H Q E) : FnOk P w K mg base CX k f fd ps sp :=
  ⟨fun vs H Q E h => absurd h (no vs H Q E), fun A outer s H args us vs Q E _ _ _ _ h => absurd h (no vs H Q E)⟩
/-- a def of the top -/
structure DefF (K : PySem.W.Frag) (mg : Str → Option Value) (x : Str) (st : Stmt) (ps : List Str) (f : Addr) (fd : FuncData) : Prop where
  F : Fun K x x st f fd
  b : Binds K fd ps []
  m : mg x = some (.ref f)
theorem DefF.at {P : Program} {w : World} {K : PySem.W.Frag} {mg : Str → Option Value} {base : Heap} {k : Nat} {x : Str} {st : Stmt} {ps : List Str} {f : Addr} {fd : FuncData} {sp : Sp} (h : DefF K mg x st ps f fd) (G : FnOk P w K mg base CX0 k f fd ps sp) :
    FnAt P w K mg base CX0 k x sp := ⟨f, fd, ps, h.m, h.F.kp, G, h.b⟩
end L2
end
section
set_option Elab.async false
set_option linter.all false
set_option maxRecDepth 100000
set_option maxHeartbeats 4000000
namespace L2
open PySem PySem.Spec PyProof.Rows
section
variable {X : Cx}
theorem call_sum (hc : X.calm = true) : CallR X (.builtin "sum") (fun xs H Q => ∃ p ns, xs = [.ref p] ∧ SqL X.K H p (List.map V.int ns) ∧ Q (.int ns.sum) H) := by
  intro pins s σ H xs us Q I r h
  obtain ⟨p, ns, rfl, hS, q⟩ := h
  obtain ⟨u, rfl, ru⟩ := vals1 r
  obtain rfl : u = Value.ref p := ru
  obtain ⟨its, ri, pl, _⟩ := I.list hS
  have hi := intsAre_of ri
  obtain ⟨zs, ez⟩ := (hi.allInts).items
  have hl : s.heap.IsList p (intItems zs) := by rw [← ez]; exact pl.isList
  refine sum_intListG (I.ok.hd hc) hl fun h' tk t' hk => ⟨.int ns.sum, H, I.kept hk, ?_, q⟩
  refine ⟨t', ?_⟩
  have e1 : ns = numsOf (intItems zs).toList := by
    rw [← ez, show its.toArray.toList = its from rfl, hi.numsOf]
  rw [preSum_eq, List.take_of_length_le (by simp), e1, nums_intItems]
end
/-! ### masks -/
def maskN (f : Nat → Bool) : Nat → Nat
  | 0 => 0
  | n + 1 => 2 ^ n * (f n).toNat + maskN f n
end L2
end
section
set_option Elab.async false
set_option linter.all false
set_option maxRecDepth 100000
set_option maxHeartbeats 4000000
/-! THE MIRROR: a def's body as a total function over plain values, by the rules of the hand layer. -/
namespace DN
open PySem L2
inductive PV where
  | non | bl (b : Bool) | int (i : Int) | str (x : Str)
  | tup (xs : List PV) | lst (xs : List PV) | obj (k : Nat) (xs : List PV) | dic (ks : List Key) (xs : List PV)
inductive Rx (α : Type) where
  | ok (a : α) | bad | exc (c : Nat)
def Rx.bind {α β : Type} : Rx α → (α → Rx β) → Rx β
  | .ok a, f => f a
  | .bad, _ => .bad
  | .exc c, _ => .exc c
theorem bind_ok {α β : Type} {m : Rx α} {f : α → Rx β} {b : β} (h : m.bind f = .ok b) : ∃ a, m = .ok a ∧ f a = .ok b := by
  cases m with
  | ok a => exact ⟨a, rfl, h⟩
  | bad => cases h
  | exc c => cases h
@[simp] theorem ok_bind {α β : Type} (a : α) (f : α → Rx β) : (Rx.ok a).bind f = f a := rfl
@[simp] theorem bad_bind {α β : Type} (f : α → Rx β) : (Rx.bad : Rx α).bind f = .bad := rfl
@[simp] theorem exc_bind {α β : Type} (c : Nat) (f : α → Rx β) : (Rx.exc c : Rx α).bind f = .exc c := rfl
/-- the program's classes: address, attributes' names -/
structure Pg where
  cA : Nat → Addr
  fN : Nat → List Str
abbrev Av := Addr → Prop
def RdL (K : PySem.W.Frag) (H : Hp) (A : Av) (a : Addr) (vs : List V) : Prop :=
  (H a = some (.lst vs) ∧ ¬ A a) ∨ (∃ o, H a = some (.frz o (.lst vs))) ∨
    ∃ (o : Obj) (its : Array Value) (n : Nat), K.lookup a = some o ∧ o.cls = .type "list" ∧ o.dict = none ∧ o.data = .seq its n ∧ its.size ≤ sizeLine ∧ Vals vs its.toList
theorem RdL.sq {K : PySem.W.Frag} {H : Hp} {A : Av} {a : Addr} {vs : List V} (h : RdL K H A a vs) : SqL K H a vs := by
  rcases h with ⟨h, _⟩ | ⟨o, h⟩ | h
  · exact .inl (.inl h)
  · exact .inl (.inr ⟨o, h⟩)
  · exact .inr h
mutual
def Rep (K : PySem.W.Frag) (G : Pg) (H : Hp) (A : Av) : PV → V → Prop
  | .non, v => v = .non
  | .bl b, v => v = .bl b
  | .int i, v => v = .int i
  | .str x, v => v = .str x
  | .tup xs, v => ∃ a vs, v = .ref a ∧ SqT K H a vs ∧ Reps K G H A xs vs
  | .lst xs, v => ∃ a vs, v = .ref a ∧ RdL K H A a vs ∧ Reps K G H A xs vs
  | .obj k xs, v => ∃ a dx vs, v = .ref a ∧ H a = some (.ins (G.cA k) dx ((G.fN k).zip vs)) ∧ (G.fN k).length = vs.length ∧ ¬ A a ∧ Reps K G H A xs vs
  | .dic ks xs, v => ∃ a vs, v = .ref a ∧ H a = some (.dK (ks.zip vs)) ∧ ks.length = vs.length ∧ ¬ A a ∧ Reps K G H A xs vs
def Reps (K : PySem.W.Frag) (G : Pg) (H : Hp) (A : Av) : List PV → List V → Prop
  | [], vs => vs = []
  | x :: xs, vs => ∃ v r, vs = v :: r ∧ Rep K G H A x v ∧ Reps K G H A xs r
end
/-- what may stand at an address that is one's own -/
abbrev Mt (o : HO) : Prop := (∀ xs, o ≠ .tup xs) ∧ ∀ o' u, o ≠ .frz o' u
/-- frozen things stay: H to H', the addresses to shun A to A' -/
structure Kp (K : PySem.W.Frag) (G : Pg) (H : Hp) (A : Av) (H' : Hp) (A' : Av) : Prop where
  rd : ∀ a o, H a = some o → ¬ A a → H' a = some o
  tp : ∀ a vs, H a = some (.tup vs) → H' a = some (.tup vs)
  fz : ∀ a o u, H a = some (.frz o u) → H' a = some (.frz o u)
  av : ∀ a, H a ≠ none → A' a → A a
section
variable {K : PySem.W.Frag} {G : Pg} {H H' H2 : Hp} {A A' A2 : Av}
theorem Kp.sqT (k : Kp K G H A H' A') {a : Addr} {vs : List V} (h : SqT K H a vs) : SqT K H' a vs := by
  rcases h with (h | ⟨o, h⟩) | h
  · exact .inl (.inl (k.tp _ _ h))
  · exact .inl (.inr ⟨o, k.fz _ _ _ h⟩)
  · exact .inr h
theorem Kp.rdL (k : Kp K G H A H' A') {a : Addr} {vs : List V} (h : RdL K H A a vs) : RdL K H' A' a vs := by
  rcases h with ⟨h, n⟩ | ⟨o, h⟩ | h
  · exact .inl ⟨k.rd _ _ h n, fun z => n (k.av _ (by rw [h]; simp) z)⟩
  · exact .inr (.inl ⟨o, k.fz _ _ _ h⟩)
  · exact .inr (.inr h)
mutual
theorem Kp.rep (k : Kp K G H A H' A') : ∀ {w : PV} {v : V}, Rep K G H A w v → Rep K G H' A' w v
  | .non, _, h => h
  | .bl _, _, h => h
  | .int _, _, h => h
  | .str _, _, h => h
  | .tup xs, v, h => by
    obtain ⟨a, vs, e, s, r⟩ := h
    exact ⟨a, vs, e, k.sqT s, Kp.reps k r⟩
  | .lst xs, v, h => by
    obtain ⟨a, vs, e, s, r⟩ := h
    exact ⟨a, vs, e, k.rdL s, Kp.reps k r⟩
  | .obj c xs, v, h => by
    obtain ⟨a, dx, vs, e, s, l, n, r⟩ := h
    exact ⟨a, dx, vs, e, k.rd _ _ s n, l, fun z => n (k.av _ (by rw [s]; simp) z), Kp.reps k r⟩
  | .dic ks xs, v, h => by
    obtain ⟨a, vs, e, s, l, n, r⟩ := h
    exact ⟨a, vs, e, k.rd _ _ s n, l, fun z => n (k.av _ (by rw [s]; simp) z), Kp.reps k r⟩
theorem Kp.reps (k : Kp K G H A H' A') : ∀ {ws : List PV} {vs : List V}, Reps K G H A ws vs → Reps K G H' A' ws vs
  | [], vs, h => h
  | w :: ws, vs, h => by
    obtain ⟨v, r, e, h1, h2⟩ := h
    exact ⟨v, r, e, Kp.rep k h1, Kp.reps k h2⟩
end
theorem Kp.of_same (s : Same H H') : Kp K G H A H' A := ⟨fun a o h _ => s _ _ h, fun a vs h => s _ _ h, fun a o u h => s _ _ h, fun a _ h => h⟩
theorem Kp.weak (h : ∀ a, A' a → A a) : Kp K G H A H A' := ⟨fun a o h _ => h, fun a vs h => h, fun a o u h => h, fun a _ z => h a z⟩
theorem Kp.trans (k : Kp K G H A H' A') (k2 : Kp K G H' A' H2 A2) : Kp K G H A H2 A2 :=
  ⟨fun a o h n => k2.rd _ _ (k.rd _ _ h n) fun z => n (k.av _ (by rw [h]; simp) z), fun a vs h => k2.tp _ _ (k.tp _ _ h), fun a o u h => k2.fz _ _ _ (k.fz _ _ _ h),
    fun a n z => by
      by_cases q : A a
      · exact q
      · cases e : H a with
        | none => exact absurd e n
        | some o => exact k.av a n (k2.av a (by rw [k.rd _ _ e q]; simp) z)⟩
/-- a store at an address of one's own -/
theorem Kp.own {p : Addr} {o u : HO} (hA : A p) (hp : H p = some o) (m : Mt o) : Kp K G H A (upd H p u) A :=
  ⟨fun a x h n => by
      rw [upd_ne (by intro z; subst z; exact n hA)]; exact h,
    fun a vs h => by
      rw [upd_ne (by intro z; subst z; rw [hp] at h; exact m.1 _ (Option.some.inj h))]; exact h,
    fun a o' u' h => by
      rw [upd_ne (by intro z; subst z; rw [hp] at h; exact m.2 _ _ (Option.some.inj h))]; exact h,
    fun a _ h => h⟩
/-- a new thing that becomes one's own -/
theorem Kp.take {p : Addr} (hp : H p = none) (hs : Same H H') (h : ∀ a, A' a → a = p ∨ A a) : Kp K G H A H' A' :=
  ⟨fun a o h _ => hs _ _ h, fun a vs h => hs _ _ h, fun a o u h => hs _ _ h, fun a n z => by
    rcases h a z with e | e
    · subst e; exact absurd hp n
    · exact e⟩
theorem Rep.same {w : PV} {v : V} (h : Rep K G H A w v) (s : Same H H') : Rep K G H' A w v := (Kp.of_same s).rep h
theorem Reps.same {ws : List PV} {vs : List V} (h : Reps K G H A ws vs) (s : Same H H') : Reps K G H' A ws vs := (Kp.of_same s).reps h
theorem Reps.len : ∀ {ws : List PV} {vs : List V}, Reps K G H A ws vs → ws.length = vs.length
  | [], vs, h => by have h : vs = [] := h; rw [h]; rfl
  | w :: ws, vs, h => by
    obtain ⟨v, r, e, _, h2⟩ := h
    subst e
    rw [List.length_cons, List.length_cons, Reps.len h2]
theorem Reps.get : ∀ {ws : List PV} {vs : List V} {i : Nat} {w : PV}, Reps K G H A ws vs → ws[i]? = some w → ∃ v, vs[i]? = some v ∧ Rep K G H A w v
  | [], vs, i, w, h, e => by simp at e
  | x :: ws, vs, 0, w, h, e => by
    obtain ⟨v, r, e', h1, h2⟩ := h
    subst e'
    simp at e; subst e
    exact ⟨v, by simp, h1⟩
  | x :: ws, vs, i + 1, w, h, e => by
    obtain ⟨v, r, e', h1, h2⟩ := h
    subst e'
    obtain ⟨u, q1, q2⟩ := Reps.get (i := i) h2 (by simpa using e)
    exact ⟨u, by simpa using q1, q2⟩
theorem Reps.app : ∀ {ws ws' : List PV} {vs vs' : List V}, Reps K G H A ws vs → Reps K G H A ws' vs' → Reps K G H A (ws ++ ws') (vs ++ vs')
  | [], ws', vs, vs', h, h' => by have h : vs = [] := h; subst h; exact h'
  | w :: ws, ws', vs, vs', h, h' => by
    obtain ⟨v, r, e, h1, h2⟩ := h
    subst e
    exact ⟨v, r ++ vs', rfl, h1, Reps.app h2 h'⟩
theorem Reps.one {w : PV} {v : V} (h : Rep K G H A w v) : Reps K G H A [w] [v] := ⟨v, [], rfl, h, rfl⟩
theorem Reps.snoc {ws : List PV} {vs : List V} {w : PV} {v : V} (h : Reps K G H A ws vs) (h' : Rep K G H A w v) : Reps K G H A (ws ++ [w]) (vs ++ [v]) := h.app (.one h')
theorem Reps.take : ∀ {ws : List PV} {vs : List V} (n : Nat), Reps K G H A ws vs → Reps K G H A (ws.take n) (vs.take n)
  | ws, vs, 0, h => by simp [Reps]
  | [], vs, n + 1, h => by have h : vs = [] := h; subst h; rfl
  | w :: ws, vs, n + 1, h => by
    obtain ⟨v, r, e, h1, h2⟩ := h
    subst e
    exact ⟨v, r.take n, rfl, h1, Reps.take n h2⟩
theorem Reps.drop : ∀ {ws : List PV} {vs : List V} (n : Nat), Reps K G H A ws vs → Reps K G H A (ws.drop n) (vs.drop n)
  | ws, vs, 0, h => by simpa using h
  | [], vs, n + 1, h => by have h : vs = [] := h; subst h; rfl
  | w :: ws, vs, n + 1, h => by
    obtain ⟨v, r, e, h1, h2⟩ := h
    subst e
    exact Reps.drop n h2
theorem Reps.set : ∀ {ws : List PV} {vs : List V} {w : PV} {v : V} (i : Nat), Reps K G H A ws vs → Rep K G H A w v → Reps K G H A (ws.set i w) (vs.set i v)
  | [], vs, w, v, i, h, h' => by have h : vs = [] := h; subst h; rfl
  | x :: ws, vs, w, v, 0, h, h' => by
    obtain ⟨u, r, e, h1, h2⟩ := h
    subst e
    exact ⟨v, r, rfl, h', h2⟩
  | x :: ws, vs, w, v, i + 1, h, h' => by
    obtain ⟨u, r, e, h1, h2⟩ := h
    subst e
    exact ⟨u, r.set i v, rfl, h1, Reps.set i h2 h'⟩
theorem Reps.ints : ∀ (ns : List Int), Reps K G H A (ns.map PV.int) (ns.map V.int)
  | [] => rfl
  | n :: ns => ⟨_, _, rfl, rfl, Reps.ints ns⟩
theorem Reps.of_ints : ∀ {ns : List Int} {vs : List V}, Reps K G H A (ns.map PV.int) vs → vs = ns.map V.int
  | [], vs, h => h
  | n :: ns, vs, h => by
    obtain ⟨v, r, e, h1, h2⟩ := h
    have h1 : v = .int n := h1
    rw [e, h1, Reps.of_ints h2]; rfl
end
/-! ### slots -/
/-- a thing of one's own -/
inductive Ow where
  | lst (xs : List PV) | dic (ks : List Key) (xs : List PV)
inductive Sl where
  | no | v (w : PV) | own (o : Ow) | bor (w : PV)
abbrev PSt := List Sl
def Ow.pv : Ow → PV
  | .lst xs => .lst xs
  | .dic ks xs => .dic ks xs
def RepO (K : PySem.W.Frag) (G : Pg) (H : Hp) (A : Av) : Ow → Addr → Prop
  | .lst xs, p => ∃ vs, H p = some (.lst vs) ∧ Reps K G H A xs vs
  | .dic ks xs, p => ∃ vs, H p = some (.dK (ks.zip vs)) ∧ ks.length = vs.length ∧ Reps K G H A xs vs
/-- the entry: its heap, the callers' own addresses -/
structure Fr where
  H0 : Hp
  A0 : Av
  B0 : Av
abbrev Ows := Nat → Option Addr
def av (c : Fr) (ow : Ows) : Av := fun a => c.A0 a ∨ ∃ i, ow i = some a
/-- a value that is looked at: frozen, or a thing of someone's own -/
def RepB (K : PySem.W.Frag) (G : Pg) (H : Hp) (A : Av) (w : PV) (v : V) : Prop := Rep K G H A w v ∨ ∃ x p, w = x.pv ∧ v = .ref p ∧ RepO K G H A x p
def SlAt (K : PySem.W.Frag) (G : Pg) (c : Fr) (H : Hp) (A : Av) (ow : Ows) (i : Nat) : Sl → Option V → Prop
  | .no, _ => ow i = none
  | .v w, o => ow i = none ∧ ∃ v, o = some v ∧ Rep K G H A w v
  | .own x, o => ∃ p, ow i = some p ∧ o = some (.ref p) ∧ RepO K G H A x p
  | .bor w, o => ow i = none ∧ ∃ v, o = some v ∧ (Rep K G H A w v ∨ ∃ x p, w = x.pv ∧ v = .ref p ∧ RepO K G H A x p ∧ c.B0 p)
structure RepS (K : PySem.W.Frag) (G : Pg) (c : Fr) (H : Hp) (ow : Ows) (ps : PSt) (σ : St) : Prop where
  len : ps.length = σ.length
  same : Same c.H0 H
  a0 : ∀ a, c.A0 a → c.H0 a ≠ none
  b0 : ∀ a, c.B0 a → c.H0 a ≠ none
  fresh : ∀ i p, ow i = some p → c.H0 p = none
  inj : ∀ i j p, ow i = some p → ow j = some p → i = j
  out : ∀ i, ps.length ≤ i → ow i = none
  slot : ∀ i s o, ps[i]? = some s → σ[i]? = some o → SlAt K G c H (av c ow) ow i s o
section
variable {K : PySem.W.Frag} {G : Pg} {H H' : Hp} {A A' : Av} {c : Fr} {ow : Ows} {ps : PSt} {σ : St}
theorem RepO.at {x : Ow} {p : Addr} (h : RepO K G H A x p) : ∃ o, H p = some o ∧ Mt o := by
  cases x with
  | lst xs => obtain ⟨vs, e, _⟩ := h; exact ⟨_, e, And.intro (fun _ z => by cases z) (fun _ _ z => by cases z)⟩
  | dic ks xs => obtain ⟨vs, e, _⟩ := h; exact ⟨_, e, And.intro (fun _ z => by cases z) (fun _ _ z => by cases z)⟩
theorem RepO.keep {x : Ow} {p : Addr} (h : RepO K G H A x p) (k : Kp K G H A H' A') (e : H' p = H p) : RepO K G H' A' x p := by
  cases x with
  | lst xs => obtain ⟨vs, q, r⟩ := h; exact ⟨vs, by rw [e]; exact q, k.reps r⟩
  | dic ks xs => obtain ⟨vs, q, l, r⟩ := h; exact ⟨vs, by rw [e]; exact q, l, k.reps r⟩
/-- frozen: the address is no longer one's own -/
theorem RepO.freeze {x : Ow} {p : Addr} (h : RepO K G H A x p) (n : ¬ A p) : Rep K G H A x.pv (.ref p) := by
  cases x with
  | lst xs => obtain ⟨vs, q, r⟩ := h; exact ⟨p, vs, rfl, .inl ⟨q, n⟩, r⟩
  | dic ks xs => obtain ⟨vs, q, l, r⟩ := h; exact ⟨p, vs, rfl, q, l, n, r⟩
theorem RepS.get (R : RepS K G c H ow ps σ) {i : Nat} {s : Sl} (e : ps[i]? = some s) : ∃ o, σ[i]? = some o ∧ SlAt K G c H (av c ow) ow i s o := by
  have hi : i < ps.length := (List.getElem?_eq_some_iff.mp e).1
  have hi' : i < σ.length := by rw [← R.len]; exact hi
  exact ⟨σ[i], List.getElem?_eq_getElem hi', R.slot i s _ e (List.getElem?_eq_getElem hi')⟩
theorem RepS.getV (R : RepS K G c H ow ps σ) {i : Nat} {w : PV} (e : ps[i]? = some (.v w)) : ∃ v, σ[i]? = some (some v) ∧ Rep K G H (av c ow) w v := by
  obtain ⟨o, eo, _, v, rfl, r⟩ := R.get e
  exact ⟨v, eo, r⟩
theorem RepS.getO (R : RepS K G c H ow ps σ) {i : Nat} {x : Ow} (e : ps[i]? = some (.own x)) : ∃ p, ow i = some p ∧ σ[i]? = some (some (.ref p)) ∧ RepO K G H (av c ow) x p := by
  obtain ⟨o, eo, p, e1, rfl, r⟩ := R.get e
  exact ⟨p, e1, eo, r⟩
/-- every address to shun is in use -/
theorem RepS.used (R : RepS K G c H ow ps σ) : ∀ a, av c ow a → H a ≠ none := by
  intro a h
  rcases h with h | ⟨i, h⟩
  · cases e : c.H0 a with
    | none => exact absurd e (R.a0 a h)
    | some o => rw [R.same _ _ e]; simp
  · have hi : i < ps.length := by
      rcases Nat.lt_or_ge i ps.length with q | q
      · exact q
      · rw [R.out i q] at h; cases h
    obtain ⟨o, eo, q⟩ := R.get (List.getElem?_eq_getElem hi)
    cases e : ps[i] with
    | no => rw [e] at q; rw [show ow i = none from q] at h; cases h
    | v w => rw [e] at q; rw [q.1] at h; cases h
    | bor w => rw [e] at q; rw [q.1] at h; cases h
    | own x =>
      rw [e] at q
      obtain ⟨p, e1, _, r⟩ := q
      rw [e1] at h; cases h
      obtain ⟨o', e', _⟩ := r.at
      rw [e']; simp
theorem bor_keep {w : PV} {v : V} {A A' : Av} (b0 : ∀ a, c.B0 a → c.H0 a ≠ none) (s : Same c.H0 H) (s' : Same c.H0 H') (k : Kp K G H A H' A') (h : Rep K G H A w v ∨ ∃ x p, w = x.pv ∧ v = .ref p ∧ RepO K G H A x p ∧ c.B0 p) :
    Rep K G H' A' w v ∨ ∃ x p, w = x.pv ∧ v = .ref p ∧ RepO K G H' A' x p ∧ c.B0 p := by
  rcases h with h | ⟨x, p, e1, e2, r, n⟩
  · exact .inl (k.rep h)
  · refine .inr ⟨x, p, e1, e2, r.keep k ?_, n⟩
    cases q : c.H0 p with
    | none => exact absurd q (b0 p n)
    | some o => rw [s _ _ q, s' _ _ q]
theorem RepS.keep (R : RepS K G c H ow ps σ) (s : Same c.H0 H') (k : Kp K G H (av c ow) H' (av c ow)) (e : ∀ i p, ow i = some p → H' p = H p) : RepS K G c H' ow ps σ := by
  refine ⟨R.len, s, R.a0, R.b0, R.fresh, R.inj, R.out, fun i x o e1 e2 => ?_⟩
  have q := R.slot i x o e1 e2
  cases x with
  | no => exact q
  | v w => obtain ⟨z, v, e3, r⟩ := q; exact ⟨z, v, e3, k.rep r⟩
  | own y => obtain ⟨p, e3, e4, r⟩ := q; exact ⟨p, e3, e4, r.keep k (e i p e3)⟩
  | bor w => obtain ⟨z, v, e3, r⟩ := q; exact ⟨z, v, e3, bor_keep R.b0 R.same s k r⟩
theorem RepS.grow (R : RepS K G c H ow ps σ) (s : Same H H') : RepS K G c H' ow ps σ :=
  R.keep (R.same.trans s) (Kp.of_same s) fun i p e => by
    cases q : H p with
    | none => exact absurd q (R.used p (.inr ⟨i, e⟩))
    | some o => exact s _ _ q
/-- a slot gets a frozen value -/
def offW (ow : Ows) (i : Nat) : Ows := fun j => if j = i then none else ow j
def onW (ow : Ows) (i : Nat) (p : Addr) : Ows := fun j => if j = i then some p else ow j
theorem av_off {i : Nat} : ∀ a, av c (offW ow i) a → av c ow a := by
  intro a h
  rcases h with h | ⟨j, h⟩
  · exact .inl h
  · unfold offW at h
    split at h
    · cases h
    · exact .inr ⟨j, h⟩
theorem RepS.setV (R : RepS K G c H ow ps σ) {i : Nat} {w : PV} {v : V} (r : Rep K G H (av c ow) w v) : RepS K G c H (offW ow i) (ps.set i (.v w)) (σ.set i (some v)) := by
  have k : Kp K G H (av c ow) H (av c (offW ow i)) := Kp.weak av_off
  refine ⟨by simp [R.len], R.same, R.a0, R.b0, fun j p e => ?_, fun j j' p e e' => ?_, fun j h => ?_, fun j x o e1 e2 => ?_⟩
  · unfold offW at e; split at e
    · cases e
    · exact R.fresh j p e
  · unfold offW at e e'
    split at e
    · cases e
    · split at e'
      · cases e'
      · exact R.inj j j' p e e'
  · unfold offW; split
    · rfl
    · exact R.out j (by simpa using h)
  · by_cases hj : j = i
    · subst hj
      have hl : j < ps.length := by
        have := (List.getElem?_eq_some_iff.mp e1).1
        simpa using this
      rw [List.getElem?_set_self hl] at e1
      rw [List.getElem?_set_self (by rw [← R.len]; exact hl)] at e2
      cases e1; cases e2
      exact ⟨by unfold offW; rw [if_pos rfl], v, rfl, k.rep r⟩
    · rw [List.getElem?_set_ne (fun z => hj z.symm)] at e1 e2
      have q := R.slot j x o e1 e2
      have eo : offW ow i j = ow j := by unfold offW; rw [if_neg hj]
      cases x with
      | no => show offW ow i j = none; rw [eo]; exact q
      | v w' => obtain ⟨z, v', e3, r'⟩ := q; exact ⟨by rw [eo]; exact z, v', e3, k.rep r'⟩
      | own y => obtain ⟨p, e3, e4, r'⟩ := q; exact ⟨p, by rw [eo]; exact e3, e4, r'.keep k rfl⟩
      | bor w => obtain ⟨z, v', e3, r'⟩ := q; exact ⟨by rw [eo]; exact z, v', e3, bor_keep R.b0 R.same R.same k r'⟩
/-- a slot gets a new thing, its own -/
theorem RepS.setO (R : RepS K G c H ow ps σ) {i : Nat} {x : Ow} {p : Addr} (hi : i < ps.length) (hs : Same H H') (hp : H p = none) (r : RepO K G H' (fun a => av c ow a ∨ a = p) x p) :
    RepS K G c H' (onW ow i p) (ps.set i (.own x)) (σ.set i (some (.ref p))) := by
  have hav : ∀ a, av c (onW ow i p) a → av c ow a ∨ a = p := by
    intro a h
    rcases h with h | ⟨j, h⟩
    · exact .inl (.inl h)
    · unfold onW at h
      split at h
      · cases h; exact .inr rfl
      · exact .inl (.inr ⟨j, h⟩)
  have k : Kp K G H (av c ow) H' (av c (onW ow i p)) := Kp.take hp hs fun a h => (hav a h).symm
  have k2 : Kp K G H' (fun a => av c ow a ∨ a = p) H' (av c (onW ow i p)) := Kp.weak hav
  refine ⟨by simp [R.len], R.same.trans hs, R.a0, R.b0, fun j q e => ?_, fun j j' q e e' => ?_, fun j h => ?_, fun j y o e1 e2 => ?_⟩
  · unfold onW at e; split at e
    · cases e; exact R.same.free hp
    · exact R.fresh j q e
  · unfold onW at e e'
    split at e
    · cases e
      split at e'
      · rename_i h1 h2; rw [h1, h2]
      · exact absurd hp (R.used _ (.inr ⟨j', e'⟩))
    · split at e'
      · cases e'
        exact absurd hp (R.used _ (.inr ⟨j, e⟩))
      · exact R.inj j j' q e e'
  · have h' : ps.length ≤ j := by simpa using h
    unfold onW; rw [if_neg (by omega)]
    exact R.out j h'
  · by_cases hj : j = i
    · subst hj
      rw [List.getElem?_set_self hi] at e1
      rw [List.getElem?_set_self (by rw [← R.len]; exact hi)] at e2
      cases e1; cases e2
      exact ⟨p, by unfold onW; rw [if_pos rfl], rfl, r.keep k2 rfl⟩
    · rw [List.getElem?_set_ne (fun z => hj z.symm)] at e1 e2
      have q := R.slot j y o e1 e2
      have eo : onW ow i p j = ow j := by unfold onW; rw [if_neg hj]
      cases y with
      | no => show onW ow i p j = none; rw [eo]; exact q
      | v w' => obtain ⟨z, v', e3, r'⟩ := q; exact ⟨by rw [eo]; exact z, v', e3, k.rep r'⟩
      | own y =>
        obtain ⟨p', e3, e4, r'⟩ := q
        obtain ⟨o', e5, _⟩ := r'.at
        exact ⟨p', by rw [eo]; exact e3, e4, r'.keep k (by rw [hs _ _ e5, e5])⟩
      | bor w => obtain ⟨z, v', e3, r'⟩ := q; exact ⟨by rw [eo]; exact z, v', e3, bor_keep R.b0 R.same (R.same.trans hs) k r'⟩
/-- a thing of one's own changes -/
theorem RepS.chg (R : RepS K G c H ow ps σ) {i : Nat} {x y : Ow} {p : Addr} {u : HO} (e : ps[i]? = some (.own x)) (ep : ow i = some p) (r : RepO K G (upd H p u) (av c ow) y p) :
    RepS K G c (upd H p u) ow (ps.set i (.own y)) σ ∧ Kp K G H (av c ow) (upd H p u) (av c ow) := by
  obtain ⟨p', e1, e2, r1⟩ := R.getO e
  rw [ep] at e1; cases e1
  obtain ⟨o, eo, m⟩ := r1.at
  have k : Kp K G H (av c ow) (upd H p u) (av c ow) := Kp.own (.inr ⟨i, ep⟩) eo m
  have sm : Same c.H0 (upd H p u) := fun b o' h => by
    rw [upd_ne (by intro z; subst z; rw [R.fresh i b ep] at h; cases h)]
    exact R.same _ _ h
  refine ⟨⟨by simp [R.len], sm, R.a0, R.b0, R.fresh, R.inj, fun j h => R.out j (by simpa using h), fun j z o' h1 h2 => ?_⟩, k⟩
  · by_cases hj : j = i
    · subst hj
      have hl : j < ps.length := (List.getElem?_eq_some_iff.mp e).1
      rw [List.getElem?_set_self hl] at h1
      cases h1
      rw [e2] at h2; cases h2
      exact ⟨p, ep, rfl, r⟩
    · rw [List.getElem?_set_ne (fun z => hj z.symm)] at h1
      have q := R.slot j z o' h1 h2
      cases z with
      | no => exact q
      | v w' => obtain ⟨z, v', e3, r'⟩ := q; exact ⟨z, v', e3, k.rep r'⟩
      | own y' =>
        obtain ⟨p', e3, e4, r'⟩ := q
        exact ⟨p', e3, e4, r'.keep k (upd_ne (by intro z; subst z; exact hj (R.inj j i p' e3 ep)))⟩
      | bor w => obtain ⟨z, v', e3, r'⟩ := q; exact ⟨z, v', e3, bor_keep R.b0 R.same sm k r'⟩
/-- a slot's own thing is frozen -/
theorem RepS.frz (R : RepS K G c H ow ps σ) {i : Nat} {x : Ow} (e : ps[i]? = some (.own x)) : ∃ p, σ[i]? = some (some (.ref p)) ∧ RepS K G c H (offW ow i) (ps.set i (.v x.pv)) σ ∧ Rep K G H (av c (offW ow i)) x.pv (.ref p) ∧ Kp K G H (av c ow) H (av c (offW ow i)) := by
  obtain ⟨p, e1, e2, r1⟩ := R.getO e
  have k : Kp K G H (av c ow) H (av c (offW ow i)) := Kp.weak av_off
  have np : ¬ av c (offW ow i) p := by
    rintro (h | ⟨j, h⟩)
    · exact absurd (R.fresh i p e1) (R.a0 p h)
    · unfold offW at h
      split at h
      · cases h
      · rename_i hj; exact hj (R.inj j i p h e1)
  have rp : Rep K G H (av c (offW ow i)) x.pv (.ref p) := (r1.keep k rfl).freeze np
  refine ⟨p, e2, ⟨by simp [R.len], R.same, R.a0, R.b0, fun j p e => ?_, fun j j' p e e' => ?_, fun j h => ?_, fun j z o h1 h2 => ?_⟩, rp, k⟩
  · unfold offW at e; split at e
    · cases e
    · exact R.fresh j p e
  · unfold offW at e e'
    split at e
    · cases e
    · split at e'
      · cases e'
      · exact R.inj j j' p e e'
  · unfold offW; split
    · rfl
    · exact R.out j (by simpa using h)
  · by_cases hj : j = i
    · subst hj
      have hl : j < ps.length := (List.getElem?_eq_some_iff.mp e).1
      rw [List.getElem?_set_self hl] at h1
      cases h1
      rw [e2] at h2; cases h2
      exact ⟨by unfold offW; rw [if_pos rfl], _, rfl, rp⟩
    · rw [List.getElem?_set_ne (fun z => hj z.symm)] at h1
      have q := R.slot j z o h1 h2
      have eo : offW ow i j = ow j := by unfold offW; rw [if_neg hj]
      cases z with
      | no => show offW ow i j = none; rw [eo]; exact q
      | v w' => obtain ⟨z, v', e3, r'⟩ := q; exact ⟨by rw [eo]; exact z, v', e3, k.rep r'⟩
      | own y => obtain ⟨p, e3, e4, r'⟩ := q; exact ⟨p, by rw [eo]; exact e3, e4, r'.keep k rfl⟩
      | bor w => obtain ⟨z, v', e3, r'⟩ := q; exact ⟨by rw [eo]; exact z, v', e3, bor_keep R.b0 R.same R.same k r'⟩
end
end DN
end
section
set_option Elab.async false
set_option linter.all false
set_option maxRecDepth 100000
set_option maxHeartbeats 4000000
namespace DN
open PySem PySem.Spec PyProof.Rows L2
abbrev DP := PSt → Rx PV
abbrev DA := PSt → Rx (List PV)
abbrev DT := PSt → Rx Bool
abbrev DM := PSt → Rx (PV × PSt)
abbrev DMA := PSt → Rx (List PV × PSt)
/-- an expression that changes nothing; one that is only looked at; a test; arguments (true: only looked at); a new list -/
def tPv (K : PySem.W.Frag) (G : Pg) (d : DP) : TE := fun σ H Q => ∃ (c : Fr) (ow : Ows) (ps : PSt) (w : PV), RepS K G c H ow ps σ ∧ d ps = .ok w ∧ ∀ v H', Same H H' → Rep K G H' (av c ow) w v → Q v H'
def tPb (K : PySem.W.Frag) (G : Pg) (d : DP) : TE := fun σ H Q => ∃ (c : Fr) (ow : Ows) (ps : PSt) (w : PV), RepS K G c H ow ps σ ∧ d ps = .ok w ∧ ∀ v H', Same H H' → RepB K G H' (av c ow) w v → Q v H'
def tPt (K : PySem.W.Frag) (G : Pg) (d : DT) : TT := fun σ H Q => ∃ (c : Fr) (ow : Ows) (ps : PSt) (b : Bool), RepS K G c H ow ps σ ∧ d ps = .ok b ∧ ∀ H', Same H H' → Q b H'
def RepM (K : PySem.W.Frag) (G : Pg) (H : Hp) (A : Av) : List Bool → List PV → List V → Prop
  | [], ws, vs => ws = [] ∧ vs = []
  | m :: ms, ws, vs => ∃ w wr v vr, ws = w :: wr ∧ vs = v :: vr ∧ (if m = true then RepB K G H A w v else Rep K G H A w v) ∧ RepM K G H A ms wr vr
def tPa (K : PySem.W.Frag) (G : Pg) (ms : List Bool) (d : DA) : TA := fun σ H Q => ∃ (c : Fr) (ow : Ows) (ps : PSt) (ws : List PV), RepS K G c H ow ps σ ∧ d ps = .ok ws ∧ ∀ vs H', Same H H' → RepM K G H' (av c ow) ms ws vs → Q vs H'
/-- the new list stands at p, apart from all that is known -/
def tPn (K : PySem.W.Frag) (G : Pg) (d : DA) : TE := fun σ H Q => ∃ (c : Fr) (ow : Ows) (ps : PSt) (ws : List PV), RepS K G c H ow ps σ ∧ d ps = .ok ws ∧ ∀ p vs H', Same H H' → H p = none → H' p = some (.lst vs) → Reps K G H' (fun a => av c ow a ∨ a = p) ws vs → Q (.ref p) H'
/-- one that may change things of one's own -/
def tMv (K : PySem.W.Frag) (G : Pg) (d : DM) : TE := fun σ H Q => ∃ (c : Fr) (ow : Ows) (ps : PSt) (w : PV) (ps' : PSt), RepS K G c H ow ps σ ∧ d ps = .ok (w, ps') ∧
  ∀ v H' ow', RepS K G c H' ow' ps' σ → Kp K G H (av c ow) H' (av c ow') → Rep K G H' (av c ow') w v → Q v H'
abbrev JP (X : Cx) (G : Pg) (e : Expr) (d : DP) : Prop := PE X e (tPv X.K G d)
abbrev JB (X : Cx) (G : Pg) (e : Expr) (d : DP) : Prop := PE X e (tPb X.K G d)
abbrev JT (X : Cx) (G : Pg) (e : Expr) (d : DT) : Prop := PT X e (tPt X.K G d)
abbrev JW (X : Cx) (G : Pg) (e : Expr) (d : DT) : Prop := PW X e (tPt X.K G d)
abbrev JA (X : Cx) (G : Pg) (ms : List Bool) (es : List Expr) (d : DA) : Prop := PA X es (tPa X.K G ms d)
abbrev JN (X : Cx) (G : Pg) (e : Expr) (d : DA) : Prop := PE X e (tPn X.K G d)
abbrev JM (X : Cx) (G : Pg) (e : Expr) (d : DM) : Prop := PE X e (tMv X.K G d)
theorem imp {X : Cx} {e : Expr} {t t' : TE} (h : PE X e t) (f : ∀ σ H Q, t' σ H Q → t σ H Q) : PE X e t' := fun pins s σ H Q I q => h pins s σ H Q I (f σ H Q q)
theorem impT {X : Cx} {e : Expr} {t t' : TT} (h : PT X e t) (f : ∀ σ H Q, t' σ H Q → t σ H Q) : PT X e t' := fun pins s σ H Q I q => h pins s σ H Q I (f σ H Q q)
theorem impW {X : Cx} {e : Expr} {t t' : TT} (h : PW X e t) (f : ∀ σ H Q, t' σ H Q → t σ H Q) : PW X e t' := fun wh pins s σ H Q I q => h wh pins s σ H Q I (f σ H Q q)
theorem impA {X : Cx} {es : List Expr} {t t' : TA} (h : PA X es t) (f : ∀ σ H Q, t' σ H Q → t σ H Q) : PA X es t' := fun pos pins s σ H Q I q => h pos pins s σ H Q I (f σ H Q q)
section
variable {K : PySem.W.Frag} {G : Pg} {H H' : Hp} {A A' : Av}
theorem RepB.same {w : PV} {v : V} (h : RepB K G H A w v) (s : Same H H') : RepB K G H' A w v := by
  rcases h with h | ⟨x, p, e1, e2, r⟩
  · exact .inl (h.same s)
  · obtain ⟨o, eo, _⟩ := r.at
    exact .inr ⟨x, p, e1, e2, r.keep (Kp.of_same s) (by rw [s _ _ eo, eo])⟩
theorem RepM.same : ∀ {ms : List Bool} {ws : List PV} {vs : List V}, RepM K G H A ms ws vs → Same H H' → RepM K G H' A ms ws vs
  | [], ws, vs, h, s => h
  | m :: ms, ws, vs, h, s => by
    obtain ⟨w, wr, v, vr, e1, e2, r, rr⟩ := h
    refine ⟨w, wr, v, vr, e1, e2, ?_, RepM.same rr s⟩
    cases m with
    | true => rw [if_pos rfl] at r ⊢; exact r.same s
    | false => rw [if_neg Bool.false_ne_true] at r ⊢; exact r.same s
theorem RepB.lst {xs : List PV} {v : V} (h : RepB K G H A (.lst xs) v) : ∃ a vs, v = .ref a ∧ SqL K H a vs ∧ Reps K G H A xs vs := by
  rcases h with ⟨a, vs, e, r, q⟩ | ⟨x, p, e1, e2, r⟩
  · exact ⟨a, vs, e, r.sq, q⟩
  · cases x with
    | lst ys => cases e1; obtain ⟨vs, q, r⟩ := r; exact ⟨p, vs, e2, SqL.of q, r⟩
    | dic ks ys => cases e1
theorem RepB.tup {xs : List PV} {v : V} (h : RepB K G H A (.tup xs) v) : ∃ a vs, v = .ref a ∧ SqT K H a vs ∧ Reps K G H A xs vs := by
  rcases h with h | ⟨x, p, e1, e2, r⟩
  · exact h
  · cases x <;> cases e1
theorem RepB.int {i : Int} {v : V} (h : RepB K G H A (.int i) v) : v = .int i := by
  rcases h with h | ⟨x, p, e1, e2, r⟩
  · exact h
  · cases x <;> cases e1
theorem RepB.str {i : Str} {v : V} (h : RepB K G H A (.str i) v) : v = .str i := by
  rcases h with h | ⟨x, p, e1, e2, r⟩
  · exact h
  · cases x <;> cases e1
theorem RepB.bl {i : Bool} {v : V} (h : RepB K G H A (.bl i) v) : v = .bl i := by
  rcases h with h | ⟨x, p, e1, e2, r⟩
  · exact h
  · cases x <;> cases e1
theorem RepB.non {v : V} (h : RepB K G H A .non v) : v = .non := by
  rcases h with h | ⟨x, p, e1, e2, r⟩
  · exact h
  · cases x <;> cases e1
theorem RepB.obj {k : Nat} {xs : List PV} {v : V} (h : RepB K G H A (.obj k xs) v) : Rep K G H A (.obj k xs) v := by
  rcases h with h | ⟨x, p, e1, e2, r⟩
  · exact h
  · cases x <;> cases e1
theorem RepB.dic {ks : List Key} {xs : List PV} {v : V} (h : RepB K G H A (.dic ks xs) v) : ∃ a vs, v = .ref a ∧ H a = some (.dK (ks.zip vs)) ∧ ks.length = vs.length ∧ Reps K G H A xs vs := by
  rcases h with ⟨a, vs, e, q, l, n, r⟩ | ⟨x, p, e1, e2, r⟩
  · exact ⟨a, vs, e, q, l, r⟩
  · cases x with
    | lst ys => cases e1
    | dic ks' ys => cases e1; obtain ⟨vs, q, l, r⟩ := r; exact ⟨p, vs, e2, q, l, r⟩
theorem RepM.reps : ∀ {ws : List PV} {vs : List V} {n : Nat}, RepM K G H A (List.replicate n false) ws vs → Reps K G H A ws vs
  | ws, vs, 0, h => by obtain ⟨rfl, rfl⟩ := h; rfl
  | ws, vs, n + 1, h => by
    obtain ⟨w, wr, v, vr, rfl, rfl, r, rr⟩ := h
    rw [if_neg Bool.false_ne_true] at r
    exact ⟨v, vr, rfl, r, RepM.reps rr⟩
theorem RepM.len : ∀ {ms : List Bool} {ws : List PV} {vs : List V}, RepM K G H A ms ws vs → ws.length = ms.length ∧ vs.length = ms.length
  | [], ws, vs, h => by obtain ⟨rfl, rfl⟩ := h; exact ⟨rfl, rfl⟩
  | m :: ms, ws, vs, h => by
    obtain ⟨w, wr, v, vr, rfl, rfl, r, rr⟩ := h
    have := RepM.len rr
    simp [this]
theorem RepM.weak : ∀ {ms : List Bool} {ws : List PV} {vs : List V}, Reps K G H A ws vs → ws.length = ms.length → RepM K G H A ms ws vs
  | [], [], vs, h, _ => ⟨rfl, h⟩
  | [], _ :: _, vs, h, l => by simp at l
  | m :: ms, [], vs, h, l => by simp at l
  | m :: ms, w :: ws, vs, h, l => by
    obtain ⟨v, r, e, h1, h2⟩ := h
    refine ⟨w, ws, v, r, rfl, e, ?_, RepM.weak h2 (by simpa using l)⟩
    cases m with
    | true => rw [if_pos rfl]; exact .inl h1
    | false => rw [if_neg Bool.false_ne_true]; exact h1
end
section
variable {X : Cx} {G : Pg} {e a b : Expr} {da db : DP} {pos : Pos}
/-! ### coercions -/
theorem b_of (h : JP X G e da) : JB X G e da := imp h fun σ H Q ⟨c, ow, ps, w, R, e, q⟩ => ⟨c, ow, ps, w, R, e, fun v H' s r => q v H' s (.inl r)⟩
def dOfN (d : DA) : DP := fun ps => (d ps).bind fun ws => .ok (.lst ws)
theorem p_of_n {d : DA} (h : JN X G e d) : JP X G e (dOfN d) := imp h fun σ H Q ⟨c, ow, ps, w, R, e, q⟩ => by
  obtain ⟨ws, e1, e2⟩ := bind_ok e
  cases e2
  refine ⟨c, ow, ps, ws, R, e1, fun p vs H' s hp hv r => q (.ref p) H' s ⟨p, vs, rfl, .inl ⟨hv, fun z => R.used p z hp⟩, (Kp.weak fun a z => Or.inl z).reps r⟩⟩
def dLift (d : DP) : DM := fun ps => (d ps).bind fun w => .ok (w, ps)
theorem m_of (h : JP X G e da) : JM X G e (dLift da) := imp h fun σ H Q ⟨c, ow, ps, w, ps', R, e, q⟩ => by
  obtain ⟨w1, e1, e2⟩ := bind_ok e
  cases e2
  exact ⟨c, ow, ps, w, R, e1, fun v H' s r => q v H' ow (R.grow s) (Kp.of_same s) r⟩
/-! ### names and constants -/
def dVar (i : Nat) : DP := fun ps => match ps[i]? with | some (.v w) => .ok w | _ => .bad
def dSee (i : Nat) : DP := fun ps => match ps[i]? with | some (.v w) => .ok w | some (.own x) => .ok x.pv | some (.bor w) => .ok w | _ => .bad
theorem p_var (i : Nat) {x : Str} {pos : Pos} (hN : X.N[i]? = some x := by rfl) (hv : Vis X.env.scope x := by first | exact Or.inl rfl | exact Or.inr (Or.inl rfl) | exact Or.inr (Or.inr rfl)) (hd : (x == ("__debug__" : Str)) = false := by decide)
    (hcd : (x == ("__classdict__" : Str)) = false := by decide) : JP X G (.Name x pos) (dVar i) := imp (pe_var hN hv hd hcd) fun σ H Q ⟨c, ow, ps, w, R, e, q⟩ => by
  unfold dVar at e
  split at e
  · rename_i w' h
    cases e
    obtain ⟨v, ev, r⟩ := R.getV h
    exact ⟨v, ev, q v H (Same.refl H) r⟩
  · cases e
theorem b_var (i : Nat) {x : Str} {pos : Pos} (hN : X.N[i]? = some x := by rfl) (hv : Vis X.env.scope x := by first | exact Or.inl rfl | exact Or.inr (Or.inl rfl) | exact Or.inr (Or.inr rfl)) (hd : (x == ("__debug__" : Str)) = false := by decide)
    (hcd : (x == ("__classdict__" : Str)) = false := by decide) : JB X G (.Name x pos) (dSee i) := imp (pe_var hN hv hd hcd) fun σ H Q ⟨c, ow, ps, w, R, e, q⟩ => by
  unfold dSee at e
  split at e
  · rename_i w' h
    cases e
    obtain ⟨v, ev, r⟩ := R.getV h
    exact ⟨v, ev, q v H (Same.refl H) (.inl r)⟩
  · rename_i x' h
    cases e
    obtain ⟨p, e1, e2, r⟩ := R.getO h
    exact ⟨_, e2, q _ H (Same.refl H) (.inr ⟨x', p, rfl, rfl, r⟩)⟩
  · rename_i w' h
    cases e
    obtain ⟨o, eo, _, v, rfl, r⟩ := R.get h
    refine ⟨v, eo, q v H (Same.refl H) ?_⟩
    rcases r with r | ⟨x, p, e1, e2, r, _⟩
    · exact .inl r
    · exact .inr ⟨x, p, e1, e2, r⟩
  · cases e
def dC (w : PV) : DP := fun _ => .ok w
theorem p_con {t : V} {w : PV} (h : PE X e (tC t)) (hr : ∀ H A, Rep X.K G H A w t) : JP X G e (dC w) := imp h fun σ H Q ⟨c, ow, ps, w, R, e, q⟩ => by
  cases e
  exact q _ H (Same.refl H) (hr _ _)
theorem p_int {i j pos} : JP X G (.Constant (.int i) j pos) (dC (.int i)) := p_con pe_int fun _ _ => rfl
theorem p_bl {i j pos} : JP X G (.Constant (.bool i) j pos) (dC (.bl i)) := p_con pe_bl fun _ _ => rfl
theorem p_str {i j pos} : JP X G (.Constant (.str i) j pos) (dC (.str i)) := p_con pe_str fun _ _ => rfl
/-! ### two operands -/
def d2 (f : PV → PV → Rx PV) (a b : DP) : DP := fun ps => (a ps).bind fun x => (b ps).bind fun y => f x y
abbrev Used (H : Hp) (A : Av) : Prop := ∀ a, A a → H a ≠ none
def Op2 (K : PySem.W.Frag) (G : Pg) (f : PV → PV → Rx PV) (r : R2) : Prop := ∀ (H : Hp) (A : Av) (x y w : PV) (v u : V) (Q : VK), Used H A → f x y = .ok w → RepB K G H A x v → RepB K G H A y u → (∀ z H', Same H H' → Rep K G H' A w z → Q z H') → r v u H Q
theorem bin2 {K : PySem.W.Frag} {f : PV → PV → Rx PV} {r : R2} (hf : Op2 K G f r) {σ : L2.St} {H : Hp} {Q : VK} (h : tPv K G (d2 f da db) σ H Q) : tOp r (tPb K G da) (tPb K G db) σ H Q := by
  obtain ⟨c, ow, ps, w, R, e, q⟩ := h
  obtain ⟨x, e1, e⟩ := bind_ok e
  obtain ⟨y, e2, e⟩ := bind_ok e
  exact ⟨c, ow, ps, x, R, e1, fun v H1 s1 r1 => ⟨c, ow, ps, y, R.grow s1, e2, fun u H2 s2 r2 => hf H2 _ x y w v u Q ((R.grow s1).grow s2).used e (r1.same s2) r2 fun z H3 s3 r3 => q z H3 ((s1.trans s2).trans s3) r3⟩⟩
theorem p_op {op : Operator} {r : R2} {f : PV → PV → Rx PV} (ho : OpR X (binaryOp op) r) (hf : Op2 X.K G f r) (ha : JB X G a da) (hb : JB X G b db) : JP X G (.BinOp a op b pos) (d2 f da db) := imp (pe_op ho ha hb) fun _ _ _ => bin2 hf
theorem p_cmp {op : CmpOp} {r : R2} {f : PV → PV → Rx PV} (ho : OpR X (compareOp op) r) (hf : Op2 X.K G f r) (ha : JB X G a da) (hb : JB X G b db) (hm : behindInMarks op b = false) : JP X G (.Compare a [op] [b] pos) (d2 f da db) := imp (pe_cmpR ho ha hb hm) fun _ _ _ => bin2 hf
def dTr (d : DP) : DT := fun ps => (d ps).bind fun x => match x with | .bl b => .ok b | _ => .bad
theorem t_cmp {op : CmpOp} {r : R2} {f : PV → PV → Rx PV} (ho : OpR X (compareOp op) r) (hf : Op2 X.K G f r) (ha : JB X G a da) (hb : JB X G b db) (hm : behindInMarks op b = false) : JT X G (.Compare a [op] [b] pos) (dTr (d2 f da db)) :=
  impT (pt_cmpR ho ha hb hm) fun σ H Q ⟨c, ow, ps, b, R, e, q⟩ => by
    obtain ⟨x, e1, e2⟩ := bind_ok e
    have : x = .bl b := by
      cases x <;> first | (cases e2; rfl) | cases e2
    subst this
    exact bin2 hf ⟨c, ow, ps, _, R, e1, fun v H' s r => ⟨b, r, q H' s⟩⟩
theorem p_ix {f : PV → PV → Rx PV} (hf : Op2 X.K G f (rIx X.K)) (ha : JB X G a da) (hb : JB X G b db) (hs : PlainIx b) : JP X G (.Subscript a b pos) (d2 f da db) := imp (pe_ix ix_seq ha hb hs) fun _ _ _ => bin2 hf
def fI (g : Int → Int → PV) : PV → PV → Rx PV
  | .int i, .int j => .ok (g i j)
  | _, _ => .bad
def fIc (C : Int → Int → Prop) [∀ i j, Decidable (C i j)] (g : Int → Int → PV) : PV → PV → Rx PV
  | .int i, .int j => if C i j then .ok (g i j) else .bad
  | _, _ => .bad
/-- a flat value as it is -/
def flat : PV → V
  | .non => .non | .bl b => .bl b | .int i => .int i | .str x => .str x | _ => .ref 0
theorem o2_I {K : PySem.W.Frag} {g : Int → Int → PV} {g' : Int → Int → V} (h : ∀ i j H A, Rep K G H A (g i j) (g' i j)) : Op2 K G (fI g) (rI0 g') := by
  intro H A x y w v u Q hu e r1 r2 q
  cases x <;> try cases e
  cases y <;> try cases e
  exact ⟨_, _, r1.int, r2.int, q _ H (Same.refl H) (h _ _ _ _)⟩
theorem o2_Ic {K : PySem.W.Frag} {C : Int → Int → Prop} [∀ i j, Decidable (C i j)] {C' : Int → Int → Prop} {g : Int → Int → PV} {g' : Int → Int → V} (hc : ∀ i j, C i j → C' i j) (h : ∀ i j H A, Rep K G H A (g i j) (g' i j)) : Op2 K G (fIc C g) (rI C' g') := by
  intro H A x y w v u Q hu e r1 r2 q
  cases x <;> try cases e
  cases y <;> try cases e
  rename_i i j
  have e : (if C i j then Rx.ok (g i j) else .bad) = .ok w := e
  split at e
  · rename_i hC
    cases e
    exact ⟨_, _, r1.int, r2.int, hc _ _ hC, q _ H (Same.refl H) (h _ _ _ _)⟩
  · cases e
abbrev fAdd := fI fun i j => .int (i + j)
abbrev fLt := fI fun i j => .bl (decide (i < j))
abbrev fAnd := fI fun i j => .int (Builtin.bitAnd i j)
abbrev fMul := fIc (fun i j => (-(2 ^ 64) < i ∧ i < 2 ^ 64) ∨ (-(2 ^ 64) < j ∧ j < 2 ^ 64)) fun i j => .int (i * j)
abbrev fMod := fIc (fun _ j => 0 < j) fun i j => .int (i % j)
abbrev fDiv := fIc (fun _ j => 0 < j ∧ j < 1073741824) fun i j => .int (i / j)
abbrev fShl := fIc (fun i j => 0 ≤ j ∧ j ≤ 1000000 ∧ i.natAbs < 2 ^ 64) fun i j => .int (i * 2 ^ j.toNat)
abbrev fShr := fIc (fun _ j => 0 ≤ j) fun i j => .int (i / 2 ^ j.toNat)
theorem p_add (ha : JB X G a da) (hb : JB X G b db) : JP X G (.BinOp a .Add b pos) (d2 fAdd da db) := p_op op_add (o2_I fun _ _ _ _ => rfl) ha hb
theorem p_and (ha : JB X G a da) (hb : JB X G b db) : JP X G (.BinOp a .BitAnd b pos) (d2 fAnd da db) := p_op op_and (o2_I fun _ _ _ _ => rfl) ha hb
theorem p_mul (ha : JB X G a da) (hb : JB X G b db) : JP X G (.BinOp a .Mult b pos) (d2 fMul da db) := p_op op_mul (o2_Ic (fun _ _ h => h) fun _ _ _ _ => rfl) ha hb
theorem p_mod (ha : JB X G a da) (hb : JB X G b db) : JP X G (.BinOp a .Mod b pos) (d2 fMod da db) := p_op op_mod (o2_Ic (fun _ _ h => h) fun _ _ _ _ => rfl) ha hb
theorem p_div (ha : JB X G a da) (hb : JB X G b db) : JP X G (.BinOp a .FloorDiv b pos) (d2 fDiv da db) := p_op op_fdiv (o2_Ic (fun _ _ h => h) fun _ _ _ _ => rfl) ha hb
theorem p_shl (ha : JB X G a da) (hb : JB X G b db) : JP X G (.BinOp a .LShift b pos) (d2 fShl da db) := p_op op_shl (o2_Ic (fun _ _ h => h) fun _ _ _ _ => rfl) ha hb
theorem p_shr (ha : JB X G a da) (hb : JB X G b db) : JP X G (.BinOp a .RShift b pos) (d2 fShr da db) := p_op op_shr (o2_Ic (fun _ _ h => h) fun _ _ _ _ => rfl) ha hb
theorem t_lt (ha : JB X G a da) (hb : JB X G b db) : JT X G (.Compare a [.Lt] [b] pos) (dTr (d2 fLt da db)) := t_cmp op_lt (o2_I fun _ _ _ _ => rfl) ha hb (nomark _)
/-! ### is None -/
def isN : PV → Bool
  | .non => true
  | _ => false
def dIsN (d : DP) : DP := fun ps => (d ps).bind fun x => .ok (.bl (isN x))
def dNotN (d : DP) : DP := fun ps => (d ps).bind fun x => .ok (.bl (!isN x))
/-! ### tests: a truth, and, or, not -/
theorem t_val {d : DP} (h : JP X G e d) (he : ∀ whole, isTrue e X.env whole = (do let v ← whole; standAt e.pos; holding [v] (truthy v)) := by intro _; rfl) : JT X G e (dTr d) := impT (pt_val h he) fun σ H Q ⟨c, ow, ps, b, R, e, q⟩ => by
  obtain ⟨x, e1, e2⟩ := bind_ok e
  have : x = .bl b := by
    cases x <;> first | (cases e2; rfl) | cases e2
  subst this
  exact ⟨c, ow, ps, _, R, e1, fun v H' s r => ⟨b, r, q H' s⟩⟩
def dAndT (a b : DT) : DT := fun ps => (a ps).bind fun x => if x = true then b ps else .ok false
def dOrT (a b : DT) : DT := fun ps => (a ps).bind fun x => if x = true then .ok true else b ps
def dNotT (a : DT) : DT := fun ps => (a ps).bind fun x => .ok (!x)
theorem or_t {K : PySem.W.Frag} {ta tb : DT} {σ : L2.St} {H : Hp} {Q : Bool → Hp → Prop} (h : tPt K G (dOrT ta tb) σ H Q) : tOr (tPt K G ta) (tPt K G tb) σ H Q := by
  obtain ⟨c, ow, ps, b, R, e, q⟩ := h
  obtain ⟨x, e1, e2⟩ := bind_ok e
  refine ⟨c, ow, ps, x, R, e1, fun H' s => ?_⟩
  split at e2
  · rename_i hx; subst hx
    cases e2
    exact iteT (q H' s)
  · rename_i hx
    have : x = false := by simpa using hx
    subst this
    exact iteF ⟨c, ow, ps, b, R.grow s, e2, fun H2 s2 => q H2 (s.trans s2)⟩
section
variable {ta tb : DT} {rest : List Expr}
theorem w_or1 (ha : JT X G a ta) : JW X G (.BoolOp .Or [a] pos) ta := pw_or1 ha
theorem w_or (ha : JT X G a ta) (hb : JW X G (.BoolOp .Or (b :: rest) pos) tb) : JW X G (.BoolOp .Or (a :: b :: rest) pos) (dOrT ta tb) := impW (pw_or ha hb) fun _ _ _ => or_t
theorem t_w (h : JW X G e ta) : JT X G e ta := PW.pt h
theorem t_not (ha : JT X G a ta) : JT X G (.UnaryOp .Not a pos) (dNotT ta) := impT (pt_not ha) fun σ H Q ⟨c, ow, ps, b, R, e, q⟩ => by
  obtain ⟨x, e1, e2⟩ := bind_ok e
  cases e2
  exact ⟨c, ow, ps, x, R, e1, fun H' s => q H' s⟩
end
/-! ### and, or, not as values (truths) -/
def dAndV (a b : DP) : DP := fun ps => (a ps).bind fun x => match x with | .bl true => b ps | .bl false => .ok (.bl false) | _ => .bad
def dOrV (a b : DP) : DP := fun ps => (a ps).bind fun x => match x with | .bl true => .ok (.bl true) | .bl false => b ps | _ => .bad
def dNotV (a : DP) : DP := fun ps => (a ps).bind fun x => match x with | .bl k => .ok (.bl (!k)) | _ => .bad
section
variable {rest : List Expr}
theorem p_one {op} (h : JP X G a da) : JP X G (.BoolOp op [a] pos) da := pe_one h
theorem p_andV (ha : JP X G a da) (hb : JP X G (.BoolOp .And (b :: rest) pos) db) : JP X G (.BoolOp .And (a :: b :: rest) pos) (dAndV da db) := imp (pe_and ha hb) fun σ H Q ⟨c, ow, ps, w, R, e, q⟩ => by
  obtain ⟨x, e1, e2⟩ := bind_ok e
  refine ⟨c, ow, ps, x, R, e1, fun v H' s r => ?_⟩
  split at e2
  · exact ⟨true, r, iteT ⟨c, ow, ps, w, R.grow s, e2, fun v2 H2 s2 r2 => q v2 H2 (s.trans s2) r2⟩⟩
  · cases e2; exact ⟨false, r, iteF (q _ H' s rfl)⟩
  · cases e2
theorem p_orV (ha : JP X G a da) (hb : JP X G (.BoolOp .Or (b :: rest) pos) db) : JP X G (.BoolOp .Or (a :: b :: rest) pos) (dOrV da db) := imp (pe_or ha hb) fun σ H Q ⟨c, ow, ps, w, R, e, q⟩ => by
  obtain ⟨x, e1, e2⟩ := bind_ok e
  refine ⟨c, ow, ps, x, R, e1, fun v H' s r => ?_⟩
  split at e2
  · cases e2; exact ⟨true, r, iteT (q _ H' s rfl)⟩
  · exact ⟨false, r, iteF ⟨c, ow, ps, w, R.grow s, e2, fun v2 H2 s2 r2 => q v2 H2 (s.trans s2) r2⟩⟩
  · cases e2
theorem p_notV (ha : JP X G a da) : JP X G (.UnaryOp .Not a pos) (dNotV da) := imp (pe_not ha) fun σ H Q ⟨c, ow, ps, w, R, e, q⟩ => by
  obtain ⟨x, e1, e2⟩ := bind_ok e
  refine ⟨c, ow, ps, x, R, e1, fun v H' s r => ?_⟩
  split at e2
  · cases e2; exact ⟨_, r, q _ H' s rfl⟩
  · cases e2
def dNeg (d : DP) : DP := fun ps => (d ps).bind fun x => match x with | .int i => .ok (.int (-i)) | _ => .bad
def dIfV (t : DT) (a b : DP) : DP := fun ps => (t ps).bind fun x => if x = true then a ps else b ps
theorem p_ifV {t : Expr} {dt : DT} (ht : JT X G t dt) (ha : JP X G a da) (hb : JP X G b db) : JP X G (.IfExp t a b pos) (dIfV dt da db) := imp (pe_ifExp ht ha hb) fun σ H Q ⟨c, ow, ps, w, R, e, q⟩ => by
  obtain ⟨x, e1, e2⟩ := bind_ok e
  refine ⟨c, ow, ps, x, R, e1, fun H' s => ?_⟩
  split at e2
  · rename_i hx; subst hx; exact iteT ⟨c, ow, ps, w, R.grow s, e2, fun v2 H2 s2 r2 => q v2 H2 (s.trans s2) r2⟩
  · rename_i hx
    have : x = false := by simpa using hx
    subst this
    exact iteF ⟨c, ow, ps, w, R.grow s, e2, fun v2 H2 s2 r2 => q v2 H2 (s.trans s2) r2⟩
end
end
end DN
end
section
set_option Elab.async false
set_option linter.all false
set_option maxRecDepth 100000
set_option maxHeartbeats 4000000
namespace DN
open PySem PySem.Spec PyProof.Rows L2
section
variable {X : Cx} {G : Pg} {e a b : Expr} {es : List Expr} {da db : DP} {pos : Pos}
/-! ### items -/
def fIx : PV → PV → Rx PV
  | .lst xs, .int i => match atI xs i with | some w => .ok w | none => .bad
  | .tup xs, .int i => match atI xs i with | some w => .ok w | none => .bad
  | .str z, .int i => if z.length ≤ sizeLine then (match atI z.cps.toList i with | some c => .ok (.str ⟨#[c]⟩) | none => .bad) else .bad
  | _, _ => .bad
theorem atI_rep {K : PySem.W.Frag} {H : Hp} {A : Av} {xs : List PV} {vs : List V} {i : Int} {w : PV} (r : Reps K G H A xs vs) (e : atI xs i = some w) : ∃ v, atI vs i = some v ∧ Rep K G H A w v := by
  unfold atI at e ⊢
  rw [← r.len]
  cases q : ixN xs.length i with
  | none => rw [q] at e; cases e
  | some j =>
    rw [q] at e
    exact r.get e
theorem o2_ix {K : PySem.W.Frag} : Op2 K G fIx (rIx K) := by
  intro H A x y w v u Q hu e r1 r2 q
  cases x <;> try cases e
  · cases y <;> try cases e
    rename_i z i
    have e : (if z.length ≤ sizeLine then (match atI z.cps.toList i with | some c => Rx.ok (PV.str ⟨#[c]⟩) | none => .bad) else .bad) = .ok w := e
    split at e
    · rename_i hz
      split at e
      · rename_i c hc
        cases e
        exact .inr (.inr ⟨z, i, c, r1.str, r2.int, hz, hc, q _ H (Same.refl H) rfl⟩)
      · cases e
    · cases e
  · cases y <;> try cases e
    rename_i xs i
    have e : (match atI xs i with | some w => Rx.ok w | none => .bad) = .ok w := e
    split at e
    · rename_i w' hw
      cases e
      obtain ⟨p, vs, ev, sq, rs⟩ := r1.tup
      obtain ⟨v', e1, r'⟩ := atI_rep rs hw
      exact .inr (.inl ⟨p, vs, i, v', ev, r2.int, sq, e1, q _ H (Same.refl H) r'⟩)
    · cases e
  · cases y <;> try cases e
    rename_i xs i
    have e : (match atI xs i with | some w => Rx.ok w | none => .bad) = .ok w := e
    split at e
    · rename_i w' hw
      cases e
      obtain ⟨p, vs, ev, sq, rs⟩ := r1.lst
      obtain ⟨v', e1, r'⟩ := atI_rep rs hw
      exact .inl ⟨p, vs, i, v', ev, r2.int, sq, e1, q _ H (Same.refl H) r'⟩
    · cases e
theorem p_at (ha : JB X G a da) (hb : JB X G b db) (hs : PlainIx b) : JP X G (.Subscript a b pos) (d2 fIx da db) := p_ix o2_ix ha hb hs
/-! ### arguments, displays -/
def dNil : DA := fun _ => .ok []
def dCons (a : DP) (r : DA) : DA := fun ps => (a ps).bind fun x => (r ps).bind fun xs => .ok (x :: xs)
theorem a_nil : JA X G [] [] dNil := impA pa_nil fun σ H Q ⟨c, ow, ps, ws, R, e, q⟩ => by
  cases e
  exact q [] H (Same.refl H) ⟨rfl, rfl⟩
theorem a_cons {ms : List Bool} {d : DA} (ha : JP X G e da) (hr : JA X G ms es d) (hs : starEach (e :: es) X.env = (false, eval e X.env) :: starEach es X.env := by rfl) : JA X G (false :: ms) (e :: es) (dCons da d) :=
  impA (pa_cons ha hr hs) fun σ H Q ⟨c, ow, ps, ws, R, e, q⟩ => by
    obtain ⟨x, e1, e⟩ := bind_ok e
    obtain ⟨xs, e2, e⟩ := bind_ok e
    cases e
    exact ⟨c, ow, ps, x, R, e1, fun v H1 s1 r1 => ⟨c, ow, ps, xs, R.grow s1, e2, fun vs H2 s2 r2 => q (v :: vs) H2 (s1.trans s2) ⟨x, xs, v, vs, rfl, rfl, by rw [if_neg Bool.false_ne_true]; exact r1.same s2, r2⟩⟩⟩
theorem a_consB {ms : List Bool} {d : DA} (ha : JB X G e da) (hr : JA X G ms es d) (hs : starEach (e :: es) X.env = (false, eval e X.env) :: starEach es X.env := by rfl) : JA X G (true :: ms) (e :: es) (dCons da d) :=
  impA (pa_cons ha hr hs) fun σ H Q ⟨c, ow, ps, ws, R, e, q⟩ => by
    obtain ⟨x, e1, e⟩ := bind_ok e
    obtain ⟨xs, e2, e⟩ := bind_ok e
    cases e
    exact ⟨c, ow, ps, x, R, e1, fun v H1 s1 r1 => ⟨c, ow, ps, xs, R.grow s1, e2, fun vs H2 s2 r2 => q (v :: vs) H2 (s1.trans s2) ⟨x, xs, v, vs, rfl, rfl, by rw [if_pos rfl]; exact r1.same s2, r2⟩⟩⟩
theorem RepM.reps' {K : PySem.W.Frag} {H : Hp} {A : Av} : ∀ {ms : List Bool} {ws : List PV} {vs : List V}, RepM K G H A ms ws vs → ms.all (! ·) = true → Reps K G H A ws vs
  | [], ws, vs, h, _ => by obtain ⟨rfl, rfl⟩ := h; rfl
  | m :: ms, ws, vs, h, hm => by
    obtain ⟨w, wr, v, vr, rfl, rfl, r, rr⟩ := h
    rw [List.all_cons, Bool.and_eq_true] at hm
    have : m = false := by simpa using hm.1
    subst this
    rw [if_neg Bool.false_ne_true] at r
    exact ⟨v, vr, rfl, r, RepM.reps' rr hm.2⟩
def dTup (d : DA) : DP := fun ps => (d ps).bind fun ws => .ok (.tup ws)
theorem p_tup {ms : List Bool} {d : DA} {x1} (h : JA X G ms es d) (hm : ms.all (! ·) = true := by rfl) (hl : ms.length ≤ 1000 := by decide) : JP X G (.Tuple es x1 pos) (dTup d) := imp (pe_tup h) fun σ H Q ⟨c, ow, ps, w, R, e, q⟩ => by
  obtain ⟨ws, e1, e⟩ := bind_ok e
  cases e
  refine ⟨c, ow, ps, ws, R, e1, fun vs H1 s1 r1 => ⟨?_, fun p hp => ?_⟩⟩
  · rw [r1.len.2]; exact Nat.le_of_lt (small1000 hl)
  · exact q _ _ (s1.trans (same_upd hp _)) ⟨p, vs, rfl, SqT.of upd_same, (r1.reps' hm).same (same_upd hp _)⟩
theorem n_lst {ms : List Bool} {d : DA} (h : JA X G ms es d) (hm : ms.all (! ·) = true := by rfl) (hl : ms.length ≤ 1000 := by decide) : JN X G (.List es pos) d := imp (pe_lst h) fun σ H Q ⟨c, ow, ps, ws, R, e, q⟩ => by
  refine ⟨c, ow, ps, ws, R, e, fun vs H1 s1 r1 => ⟨?_, fun p hp => ?_⟩⟩
  · rw [r1.len.2]; exact Nat.le_of_lt (small1000 hl)
  · exact q p vs _ (s1.trans (same_upd hp _)) (s1.free hp) upd_same ((Kp.take hp (same_upd hp _) fun a z => z.symm).reps (r1.reps' hm))
/-! ### new lists: +, a slice, list(..) -/
def dCatL (a b : DP) : DA := fun ps => (a ps).bind fun x => (b ps).bind fun y => match x, y with | .lst xs, .lst ys => if xs.length + ys.length ≤ sizeLine then .ok (xs ++ ys) else .bad | _, _ => .bad
theorem n_cat (ha : JB X G a da) (hb : JB X G b db) (ho : OpR X (binaryOp .Add) (fun x y H Q => ∃ l m xs zs, x = .ref l ∧ y = .ref m ∧ SqL X.K H l xs ∧ SqL X.K H m zs ∧ xs.length + zs.length ≤ sizeLine ∧ ∀ p, H p = none → Q (.ref p) (upd H p (.lst (xs ++ zs))))) :
    JN X G (.BinOp a .Add b pos) (dCatL da db) := imp (pe_op ho ha hb) fun σ H Q ⟨c, ow, ps, ws, R, e, q⟩ => by
  obtain ⟨x, e1, e⟩ := bind_ok e
  obtain ⟨y, e2, e⟩ := bind_ok e
  refine ⟨c, ow, ps, x, R, e1, fun v H1 s1 r1 => ⟨c, ow, ps, y, R.grow s1, e2, fun u H2 s2 r2 => ?_⟩⟩
  split at e
  · rename_i xs ys
    split at e
    · rename_i hl
      cases e
      obtain ⟨l, vs, e3, sq, rs⟩ := (r1.same s2).lst
      obtain ⟨m, us, e4, sq', rs'⟩ := r2.lst
      refine ⟨l, m, vs, us, e3, e4, sq, sq', by rw [← rs.len, ← rs'.len]; exact hl, fun p hp => ?_⟩
      have sp := same_upd hp (.lst (vs ++ us))
      exact q p _ _ ((s1.trans s2).trans sp) ((s1.trans s2).free hp) upd_same ((Kp.take hp sp fun a z => z.symm).reps (rs.app rs'))
    · cases e
  · cases e
theorem op_catL : OpR X (binaryOp .Add) (fun x y H Q => ∃ l m xs zs, x = .ref l ∧ y = .ref m ∧ SqL X.K H l xs ∧ SqL X.K H m zs ∧ xs.length + zs.length ≤ sizeLine ∧ ∀ p, H p = none → Q (.ref p) (upd H p (.lst (xs ++ zs)))) := by
  intro pins s σ H x y v u Q I rx ry h
  obtain ⟨l, b, xs, zs, rfl, rfl, e1, e2, z, q⟩ := h
  obtain ⟨its, r1, ⟨⟨cls, dd, data, sl⟩, n, ho, hc, hd0, hd⟩, z1⟩ := I.list e1
  obtain ⟨itb, r2, ⟨⟨cls2, dd2, data2, sl2⟩, n2, ho2, hc2, hd02, hd2⟩, z2⟩ := I.list e2
  simp only at hc hd hc2 hd2
  subst hc hd hc2 hd2
  obtain rfl : v = Value.ref l := rx
  obtain rfl : u = Value.ref b := ry
  have hl1 := r1.length
  have hl2 := r2.length
  have ea : its.toArray ++ itb.toArray = (its ++ itb).toArray := by simp
  refine concat_meets ⟨_, ho, rfl⟩ ⟨_, ho2, rfl⟩ noFill_list_add seq_list_add PySem.F.slot_list_add PySem.F.entry_list_add (PySem.F.args_list_add_2 _ _) (list_addW l b its.toArray itb.toArray n n2 dd dd2 sl sl2 (by rw [List.size_toArray, List.size_toArray]; omega)) ⟨ho, ho2, ?_⟩
  rw [ea]
  exact ⟨.ref _, _, I.lnew (t' := s.toks) (r1.append r2) (by rw [List.length_append]; omega), rfl, q _ I.fresh⟩
/-! ### slices of lists -/
def tPo (K : PySem.W.Frag) (G : Pg) (d : PSt → Rx (Option Int)) : TO := fun σ H Q => ∃ (c : Fr) (ow : Ows) (ps : PSt) (o : Option Int), RepS K G c H ow ps σ ∧ d ps = .ok o ∧ ∀ H', Same H H' → Q o H'
abbrev JO (X : Cx) (G : Pg) (e : Option Expr) (d : PSt → Rx (Option Int)) : Prop := PO X e (tPo X.K G d)
def dO0 : PSt → Rx (Option Int) := fun _ => .ok none
def dO1 (d : DP) : PSt → Rx (Option Int) := fun ps => (d ps).bind fun x => match x with | .int i => .ok (some i) | _ => .bad
theorem o_none : JO X G none dO0 := fun pins s σ H Q I hq => po_none pins s σ H Q I (by
  obtain ⟨c, ow, ps, o, R, e, q⟩ := hq
  cases e
  exact q H (Same.refl H))
theorem o_some (h : JP X G e da) : JO X G (some e) (dO1 da) := fun pins s σ H Q I hq => po_some h pins s σ H Q I (by
  obtain ⟨c, ow, ps, o, R, e, q⟩ := hq
  obtain ⟨x, e1, e2⟩ := bind_ok e
  refine ⟨c, ow, ps, x, R, e1, fun v H' s r => ?_⟩
  split at e2
  · cases e2; exact ⟨_, r, q H' s⟩
  · cases e2)
def cutP (xs : List PV) (lo hi : Option Int) : List PV := (xs.drop (HT.sIx xs.length 0 lo)).take (HT.sIx xs.length xs.length hi - HT.sIx xs.length 0 lo)
def dCut (d : DP) (dl dh : PSt → Rx (Option Int)) : DA := fun ps => (d ps).bind fun x => (dl ps).bind fun lo => (dh ps).bind fun hi => match x with | .lst xs => .ok (cutP xs lo hi) | _ => .bad
theorem n_cut {lo hi : Option Expr} {dl dh : PSt → Rx (Option Int)} {p2 : Pos} (he : JB X G e da) (hl : JO X G lo dl) (hh : JO X G hi dh) : JN X G (.Subscript e (.Slice lo hi none p2) pos) (dCut da dl dh) := imp (pe_slice sl_list he hl hh) fun σ H Q ⟨c, ow, ps, ws, R, e, q⟩ => by
  obtain ⟨x, e1, e⟩ := bind_ok e
  obtain ⟨l, e2, e⟩ := bind_ok e
  obtain ⟨h, e3, e⟩ := bind_ok e
  refine ⟨c, ow, ps, x, R, e1, fun v H1 s1 r1 => ⟨c, ow, ps, l, R.grow s1, e2, fun H2 s2 => ⟨c, ow, ps, h, (R.grow s1).grow s2, e3, fun H3 s3 => ?_⟩⟩⟩
  split at e
  · cases e
    obtain ⟨a, vs, e4, sq, rs⟩ := ((r1.same s2).same s3).lst
    refine ⟨a, vs, e4, sq, fun p hp => ?_⟩
    have sp := same_upd hp (.lst (cutV vs l h))
    have sA := (s1.trans s2).trans s3
    refine q p _ _ (sA.trans sp) (sA.free hp) upd_same ((Kp.take hp sp fun a z => z.symm).reps ?_)
    unfold cutP cutV
    rw [rs.len]
    exact (rs.drop _).take _
  · cases e
/-! ### built-in functions -/
def dCall (f : List PV → Rx PV) (d : DA) : DP := fun ps => (d ps).bind f
def CbR (K : PySem.W.Frag) (G : Pg) (ms : List Bool) (f : List PV → Rx PV) (r : List V → Hp → VK → Prop) : Prop := ∀ (H : Hp) (A : Av) (ws : List PV) (vs : List V) (w : PV) (Q : VK), Used H A → f ws = .ok w → RepM K G H A ms ws vs → (∀ z H', Same H H' → Rep K G H' A w z → Q z H') → r vs H Q
theorem cb_of {K : PySem.W.Frag} {ms : List Bool} {f : List PV → Rx PV} {r : List V → Hp → VK → Prop} {d : DA} (hf : CbR K G ms f r) {σ : L2.St} {H : Hp} {Q : VK} (h : tPv K G (dCall f d) σ H Q) : tCB r (tPa K G ms d) σ H Q := by
  obtain ⟨c, ow, ps, w, R, e, q⟩ := h
  obtain ⟨ws, e1, e2⟩ := bind_ok e
  exact ⟨c, ow, ps, ws, R, e1, fun vs H' s r => hf H' _ ws vs w Q (R.grow s).used e2 r fun z H2 s2 r2 => q z H2 (s.trans s2) r2⟩
theorem p_callB {x : Str} {p : Pos} {id : String} {ms : List Bool} {f : List PV → Rx PV} {r : List V → Hp → VK → Prop} {d : DA} (hc : CallR X (.builtin id) r) (hf : CbR X.K G ms f r) (hg : Gl X x) (hm : X.mg x = none) (hv : bootBuiltins x = some (.builtin id)) (ha : JA X G ms (e :: es) d) (hn : x ≠ "__name__" := by decide) (hdb : (x == ("__debug__" : Str)) = false := by decide)
    (he : starEach (e :: es) X.env = (false, eval e X.env) :: starEach es X.env := by rfl) (hpl : (backTo pos (starEach es X.env)).any (·.1) = false := by rfl) : JP X G (.Call (.Name x p) (e :: es) [] pos) (dCall f d) := imp (pe_callB hc hg hm hv ha hn hdb he hpl) fun _ _ _ => cb_of hf
theorem p_callTy {x : Str} {p : Pos} {T : String} {ms : List Bool} {f : List PV → Rx PV} {r : List V → Hp → VK → Prop} {d : DA} (hc : CallR X (.type T) r) (hf : CbR X.K G ms f r) (hg : Gl X x) (hm : X.mg x = none) (hv : bootBuiltins x = some (.type T)) (ha : JA X G ms (e :: es) d) (hn : x ≠ "__name__" := by decide) (hdb : (x == ("__debug__" : Str)) = false := by decide)
    (he : starEach (e :: es) X.env = (false, eval e X.env) :: starEach es X.env := by rfl) (hpl : (backTo pos (starEach es X.env)).any (·.1) = false := by rfl) : JP X G (.Call (.Name x p) (e :: es) [] pos) (dCall f d) := imp (pe_callTy hc hg hm hv ha hn hdb he hpl) fun _ _ _ => cb_of hf
theorem RepM.one {K : PySem.W.Frag} {H : Hp} {A : Av} {ws : List PV} {vs : List V} (h : RepM K G H A [true] ws vs) : ∃ w v, ws = [w] ∧ vs = [v] ∧ RepB K G H A w v := by
  obtain ⟨w, wr, v, vr, rfl, rfl, r, rfl, rfl⟩ := h
  exact ⟨w, v, rfl, rfl, r⟩
theorem RepM.two {K : PySem.W.Frag} {H : Hp} {A : Av} {ws : List PV} {vs : List V} (h : RepM K G H A [true, true] ws vs) : ∃ w w' v v', ws = [w, w'] ∧ vs = [v, v'] ∧ RepB K G H A w v ∧ RepB K G H A w' v' := by
  obtain ⟨w, wr, v, vr, rfl, rfl, r, w', wr', v', vr', rfl, rfl, r', rfl, rfl⟩ := h
  exact ⟨w, w', v, v', rfl, rfl, r, r'⟩
def bLen : List PV → Rx PV
  | [.str y] => if y.length ≤ sizeLine then .ok (.int y.length) else .bad
  | [.lst xs] => .ok (.int xs.length)
  | [.tup xs] => .ok (.int xs.length)
  | _ => .bad
theorem cb_len {K : PySem.W.Frag} : CbR K G [true] bLen (fun xs H Q => ∃ x n, xs = [x] ∧ LenV K x H n ∧ Q (.int n) H) := by
  intro H A ws vs w Q hu e r q
  obtain ⟨x, v, rfl, rfl, rb⟩ := r.one
  clear r
  cases x <;> try cases e
  · rename_i y
    have e : (if y.length ≤ sizeLine then Rx.ok (PV.int y.length) else .bad) = .ok w := e
    split at e
    · rename_i hy
      cases e
      rw [rb.str]
      exact ⟨_, _, rfl, ⟨hy, rfl⟩, q _ H (Same.refl H) rfl⟩
    · cases e
  · obtain ⟨a, vs, rfl, sq, rs⟩ := rb.tup
    exact ⟨_, _, rfl, .inr ⟨vs, sq, rfl⟩, q _ H (Same.refl H) (by show _ = _; rw [rs.len])⟩
  · obtain ⟨a, vs, rfl, sq, rs⟩ := rb.lst
    exact ⟨_, _, rfl, .inl ⟨vs, sq, rfl⟩, q _ H (Same.refl H) (by show _ = _; rw [rs.len])⟩
def bInt : List PV → Rx PV
  | [.int i] => .ok (.int i)
  | [.bl k] => .ok (.int (if k then 1 else 0))
  | _ => .bad
theorem cb_int {K : PySem.W.Frag} : CbR K G [true] bInt (fun xs H Q => (∃ i, xs = [V.int i] ∧ Q (.int i) H) ∨ ∃ k, xs = [V.bl k] ∧ Q (.int (if k then 1 else 0)) H) := by
  intro H A ws vs w Q hu e r q
  obtain ⟨x, v, rfl, rfl, rb⟩ := r.one
  clear r
  cases x <;> try cases e
  · rw [rb.bl]; exact .inr ⟨_, rfl, q _ H (Same.refl H) rfl⟩
  · rw [rb.int]; exact .inl ⟨_, rfl, q _ H (Same.refl H) rfl⟩
/-- sum of a list of ints -/
def intsOf : List PV → Option (List Int)
  | [] => some []
  | .int i :: r => (intsOf r).map (i :: ·)
  | _ :: _ => none
theorem ints_of : ∀ {xs : List PV} {ns : List Int}, intsOf xs = some ns → xs = ns.map PV.int
  | [], ns, h => by cases h; rfl
  | x :: r, ns, h => by
    cases x <;> try cases h
    rename_i i
    have h : (intsOf r).map (i :: ·) = some ns := h
    cases q : intsOf r with
    | none => rw [q] at h; cases h
    | some ms => rw [q] at h; cases h; rw [ints_of q]; rfl
def bSum : List PV → Rx PV
  | [.lst xs] => match intsOf xs with | some ns => .ok (.int ns.sum) | none => .bad
  | _ => .bad
theorem cb_sum {K : PySem.W.Frag} : CbR K G [true] bSum (fun xs H Q => ∃ p ns, xs = [V.ref p] ∧ SqL K H p (List.map V.int ns) ∧ Q (.int ns.sum) H) := by
  intro H A ws vs w Q hu e r q
  obtain ⟨x, v, rfl, rfl, rb⟩ := r.one
  clear r
  cases x <;> try cases e
  rename_i xs
  have e : (match intsOf xs with | some ns => Rx.ok (PV.int ns.sum) | none => .bad) = .ok w := e
  split at e
  · rename_i ns h
    cases e
    obtain ⟨a, vs, rfl, sq, rs⟩ := rb.lst
    rw [ints_of h] at rs
    rw [rs.of_ints] at sq
    exact ⟨a, ns, rfl, sq, q _ H (Same.refl H) rfl⟩
  · cases e
def dCallN (f : List PV → Rx (List PV)) (d : DA) : DA := fun ps => (d ps).bind f
/-! ### isinstance -/
def kd : PV → Nat
  | .non => 0 | .bl _ => 1 | .int _ => 2 | .str _ => 3 | .tup _ => 4 | .lst _ => 5 | .dic _ _ => 6 | .obj k _ => k + 10
def tyOfKd (G : Pg) : Nat → Value
  | 0 => .type "NoneType" | 1 => .type "bool" | 2 => .type "int" | 3 => .type "str" | 4 => .type "tuple" | 5 => .type "list" | 6 => .type "dict" | 7 => .none | 8 => .none | 9 => .none
  | k + 10 => .ref (G.cA k)
/-- what is asked of a class for its own instances' type -/
def ClsTy (K : PySem.W.Frag) (C : Addr) : Prop := ∀ H a dx fs, H a = some (.ins C dx fs) → TyOf K H (.ref a) (.ref C)
def dIsi (l : List (Nat × Bool)) (d : DP) : DP := fun ps => (d ps).bind fun x => match l.lookup (kd x) with | some b => .ok (.bl b) | none => .bad
structure IsiOk (K : PySem.W.Frag) (G : Pg) (cv : Value) (l : List (Nat × Bool)) : Prop where
  kit : ∀ k b, l.lookup k = some b → PySem.W.kitOne K (tyOfKd G k) cv = some b
  cls : ∀ k b, l.lookup (k + 10) = some b → ClsTy K (G.cA k)
theorem call_isi (cv : Value) (l : List (Nat × Bool)) (ok : IsiOk X.K G cv l) : CallR X (.builtin "isinstance") (fun xs H Q => ∃ A w v c b, xs = [v, c] ∧ (∀ u, RelV c u → u = cv) ∧ RepB X.K G H A w v ∧ l.lookup (kd w) = some b ∧ Q (.bl b) H) := by
  intro pins s σ H xs us Q I r h
  obtain ⟨A, w, v, c, b, rfl, hc, rw', hl, q⟩ := h
  obtain ⟨u, u', rfl, ru, rc⟩ := vals2 r
  obtain rfl := hc _ rc
  have kit := ok.kit _ _ hl
  have fin : ∀ tk, EP X pins σ Q (.bool b) { s with toks := tk } := fun tk => ⟨.bl b, H, I.tok tk, rfl, q⟩
  cases w with
  | non => rw [rw'.non] at ru; exact isinst_ok I ru .non kit fin
  | bl k => rw [rw'.bl] at ru; exact isinst_ok I ru (.bl _) kit fin
  | int i => rw [rw'.int] at ru; exact isinst_ok I ru (.int _) kit fin
  | str i => rw [rw'.str] at ru; exact isinst_ok I ru (.str _) kit fin
  | tup ws =>
    obtain ⟨a, vs, rfl, sq, rs⟩ := rw'.tup
    cases (show u = Value.ref a from ru)
    obtain ⟨its, _, p, _⟩ := I.tuple sq
    obtain ⟨o, h1, h2, _⟩ := p
    exact PySem.W.kia_one PySem.W.kitx_tuple I.kIn ⟨o, h1, h2⟩ kit (fun z => nomatch z) fin
  | lst ws =>
    obtain ⟨a, vs, rfl, sq, rs⟩ := rw'.lst
    cases (show u = Value.ref a from ru)
    obtain ⟨its, _, ⟨o, n, h1, h2, _⟩, _⟩ := I.list sq
    exact PySem.W.kia_one PySem.W.kitx_list I.kIn ⟨o, h1, h2⟩ kit (fun z => nomatch z) fin
  | dic ks ws =>
    obtain ⟨a, vs, rfl, hH, _, rs⟩ := rw'.dic
    exact isinst_ok I ru (.dK hH) kit fin
  | obj k ws =>
    obtain ⟨a, dx, vs, rfl, hH, _, _, rs⟩ := rw'.obj
    exact isinst_ok I ru (ok.cls k b hl H a dx _ hH) kit fin
theorem p_isi {ce : Expr} {cvv : V} {cv : Value} {l : List (Nat × Bool)} {p : Pos} (hg : Gl X "isinstance") (hm : X.mg "isinstance" = none) (ok : IsiOk X.K G cv l) (hcv : ∀ u, RelV cvv u → u = cv) (ha : JB X G e da) (hc : PE X ce (tC cvv))
    (he : starEach [e, ce] X.env = (false, eval e X.env) :: starEach [ce] X.env := by rfl) (he2 : starEach [ce] X.env = (false, eval ce X.env) :: starEach [] X.env := by rfl) (hpl : (backTo pos (starEach [ce] X.env)).any (·.1) = false := by rfl) :
    JP X G (.Call (.Name "isinstance" p) [e, ce] [] pos) (dIsi l da) :=
  imp (pe_callB (call_isi cv l ok) hg hm boot_isinstance (pa_cons ha (pa_cons hc pa_nil he2) he) (by decide) (by decide) he hpl) fun σ H Q ⟨c, ow, ps, w, R, e, q⟩ => by
    obtain ⟨x, e1, e2⟩ := bind_ok e
    refine ⟨c, ow, ps, x, R, e1, fun v H' s r => ?_⟩
    split at e2
    · rename_i b hb
      cases e2
      exact ⟨_, x, v, cvv, b, rfl, hcv, r, hb, q _ H' s rfl⟩
    · cases e2
/-! ### attributes -/
theorem zip_lookup {f : Str} {v : V} : ∀ {ns : List Str} {vs : List V} {j : Nat}, ns.Nodup → ns[j]? = some f → vs[j]? = some v → (ns.zip vs).lookup f = some v
  | [], vs, j, _, h, _ => by simp at h
  | n :: ns, [], j, _, _, h => by simp at h
  | n :: ns, u :: vs, 0, _, h1, h2 => by
    simp at h1 h2; subst h1; subst h2
    simp
  | n :: ns, u :: vs, j + 1, nd, h1, h2 => by
    have h1' : ns[j]? = some f := by simpa using h1
    have hne : (f == n) = false := by
      have : f ≠ n := fun z => by subst z; exact (List.nodup_cons.mp nd).1 (List.mem_of_getElem? h1')
      simpa using this
    rw [List.zip_cons_cons, List.lookup_cons, hne]
    exact zip_lookup (j := j) (List.nodup_cons.mp nd).2 h1' (by simpa using h2)
structure FldOk (K : PySem.W.Frag) (G : Pg) (f : Str) (l : List (Nat × Nat)) : Prop where
  all : ∀ k j, l.lookup k = some j → Cls K (G.cA k) ∧ NoAttr K (G.cA k) f ∧ (G.fN k).Nodup ∧ (G.fN k)[j]? = some f
def dFld (l : List (Nat × Nat)) (d : DP) : DP := fun ps => (d ps).bind fun x => match x with
  | .obj k xs => (match l.lookup k with | some j => (match xs[j]? with | some w => .ok w | none => .bad) | none => .bad)
  | _ => .bad
theorem p_fld {f : Str} {l : List (Nat × Nat)} (ok : FldOk X.K G f l) (ha : JP X G e da) (hb : attributeBase e f X.env (eval e X.env) = eval e X.env) : JP X G (.Attribute e f pos) (dFld l da) := imp (pe_fld ha hb) fun σ H Q ⟨c, ow, ps, w, R, e, q⟩ => by
  obtain ⟨x, e1, e2⟩ := bind_ok e
  refine ⟨c, ow, ps, x, R, e1, fun v H' s r => ?_⟩
  cases x with
  | obj k xs =>
    have e2 : (match l.lookup k with | some j => (match xs[j]? with | some w => Rx.ok w | none => .bad) | none => .bad) = .ok w := e2
    split at e2
    · rename_i j hj
      split at e2
      · rename_i w' hw
        cases e2
        obtain ⟨a, dx, vs, rfl, hH, hl, na, rs⟩ := r
        obtain ⟨c1, c2, c3, c4⟩ := ok.all k j hj
        obtain ⟨u, hu, ru⟩ := rs.get hw
        exact ⟨a, _, dx, _, u, rfl, hH, c1, c2, zip_lookup c3 c4 hu, q u H' s ru⟩
      · cases e2
    · cases e2
  | _ => cases e2
end
end DN
end
section
set_option Elab.async false
set_option linter.all false
set_option maxRecDepth 100000
set_option maxHeartbeats 4000000
namespace DN
open PySem PySem.Spec PyProof.Rows L2
/-! ### states without things of one's own -/
def SlF (K : PySem.W.Frag) (G : Pg) (B : Av) (H : Hp) (A : Av) : Sl → Option V → Prop
  | .no, _ => True
  | .v w, o => ∃ v, o = some v ∧ Rep K G H A w v
  | .own _, _ => False
  | .bor w, o => ∃ v, o = some v ∧ (Rep K G H A w v ∨ ∃ x p, w = x.pv ∧ v = .ref p ∧ RepO K G H A x p ∧ B p)
structure RepF (K : PySem.W.Frag) (G : Pg) (B : Av) (H : Hp) (A : Av) (ps : PSt) (σ : L2.St) : Prop where
  len : ps.length = σ.length
  slot : ∀ (i : Nat) (s : Sl) (o : Option V), ps[i]? = some s → σ[i]? = some o → SlF K G B H A s o
section
variable {K : PySem.W.Frag} {G : Pg} {H H' : Hp} {A A' B : Av} {ps : PSt} {σ : L2.St}
def ow0 : Ows := fun _ => none
theorem av0 {c : Fr} (a : Addr) : av c ow0 a → c.A0 a := by
  rintro (h | ⟨i, h⟩)
  · exact h
  · cases h
theorem RepB.keep {w : PV} {v : V} (h : RepB K G H A w v) (k : Kp K G H A H' A') (e : ∀ x p, RepO K G H A x p → H' p = H p) : RepB K G H' A' w v := by
  rcases h with h | ⟨x, p, e1, e2, r⟩
  · exact .inl (k.rep h)
  · exact .inr ⟨x, p, e1, e2, r.keep k (e x p r)⟩
theorem RepB.weak {w : PV} {v : V} (h : RepB K G H A w v) (f : ∀ a, A' a → A a) : RepB K G H A' w v := h.keep (Kp.weak f) fun _ _ _ => rfl
theorem RepF.toS (R : RepF K G B H A ps σ) (u : Used H A) (ub : Used H B) : RepS K G ⟨H, A, B⟩ H ow0 ps σ := by
  refine ⟨R.len, Same.refl H, u, ub, (fun i p e => (nomatch e)), (fun i j p e => (nomatch e)), fun _ _ => rfl, fun i s o e1 e2 => ?_⟩
  have q := R.slot i s o e1 e2
  have k : Kp K G H A H (av ⟨H, A, B⟩ ow0) := Kp.weak fun a z => av0 a z
  cases s with
  | no => rfl
  | v w => obtain ⟨v, e, r⟩ := q; exact ⟨rfl, v, e, k.rep r⟩
  | own x => exact q.elim
  | bor w =>
    obtain ⟨v, e, r⟩ := q
    refine ⟨rfl, v, e, ?_⟩
    rcases r with r | ⟨x, p, e1, e2, r, n⟩
    · exact .inl (k.rep r)
    · exact .inr ⟨x, p, e1, e2, r.keep k rfl, n⟩
theorem RepF.ofS {c : Fr} (R : RepS K G c H ow0 ps σ) : RepF K G c.B0 H c.A0 ps σ := by
  refine ⟨R.len, fun i s o e1 e2 => ?_⟩
  have q := R.slot i s o e1 e2
  have k : Kp K G H (av c ow0) H c.A0 := Kp.weak fun a z => .inl z
  cases s with
  | no => exact True.intro
  | v w => obtain ⟨_, v, e, r⟩ := q; exact ⟨v, e, k.rep r⟩
  | own x => obtain ⟨p, e, _⟩ := q; cases e
  | bor w =>
    obtain ⟨_, v, e, r⟩ := q
    refine ⟨v, e, ?_⟩
    rcases r with r | ⟨x, p, e1, e2, r, n⟩
    · exact .inl (k.rep r)
    · exact .inr ⟨x, p, e1, e2, r.keep k rfl, n⟩
/-- what a block sees of a slot -/
def Sl.out : Sl → Sl
  | .own x => .bor x.pv
  | s => s
def capP (own : List Str) (caps : List (Str × Nat)) (ps : PSt) : PSt := List.replicate own.length .no ++ caps.map fun p => ((ps[p.2]?).getD .no).out
theorem RepS.caps {c : Fr} {ow : Ows} (R : RepS K G c H ow ps σ) (own : List Str) (caps : List (Str × Nat)) : RepF K G (fun p => H p ≠ none) H (av c ow) (capP own caps ps) (capS own caps σ) := by
  refine ⟨by simp [capP, capS], fun i s o e1 e2 => ?_⟩
  unfold capP at e1
  unfold capS at e2
  rcases Nat.lt_or_ge i own.length with h | h
  · rw [List.getElem?_append_left (by simpa using h), List.getElem?_replicate, if_pos h] at e1
    cases e1
    exact True.intro
  · rw [List.getElem?_append_right (by simpa using h), List.length_replicate, List.getElem?_map] at e1 e2
    cases ep : caps[i - own.length]? with
    | none => rw [ep] at e1; cases e1
    | some p =>
      rw [ep] at e1 e2
      have e1 : ((ps[p.2]?).getD .no).out = s := Option.some.inj e1
      have e2 : (σ[p.2]?).getD none = o := Option.some.inj e2
      cases eq : ps[p.2]? with
      | none => rw [eq] at e1; subst e1; exact True.intro
      | some t =>
        obtain ⟨o', eo, q⟩ := R.get eq
        rw [eq] at e1; rw [eo] at e2
        have e2 : o' = o := e2
        subst e2
        subst e1
        cases t with
        | no => exact True.intro
        | v w => obtain ⟨_, v, e, r⟩ := q; exact ⟨v, e, r⟩
        | own x => obtain ⟨p, _, e, r⟩ := q; obtain ⟨o', eo, _⟩ := r.at; exact ⟨_, e, .inr ⟨x, p, rfl, rfl, r, by show H p ≠ none; rw [eo]; simp⟩⟩
        | bor w =>
          obtain ⟨_, v, e, r⟩ := q
          refine ⟨v, e, ?_⟩
          rcases r with r | ⟨x, p, e1, e2, r, _⟩
          · exact .inl r
          · obtain ⟨o', eo, _⟩ := r.at
            exact .inr ⟨x, p, e1, e2, r, by show H p ≠ none; rw [eo]; simp⟩
end
/-! ### own defs -/
def spG (K : PySem.W.Frag) (G : Pg) (ms : List Bool) (g : List PV → Rx PV) : Sp := fun vs H Q _ => ∃ A ws w, Used H A ∧ RepM K G H A ms ws vs ∧ g ws = .ok w ∧ ∀ v H', Same H H' → Rep K G H' A w v → Q v H'
section
variable {X : Cx} {G : Pg} {e a b o : Expr} {es : List Expr} {da db : DP} {d : DA} {pos p apos : Pos} {x m : Str} {k : Nat} {ms : List Bool} {g : List PV → Rx PV}
theorem p_fn (h : FnAt X.prog X.w X.K X.mg X.base CX0 k x (spG X.K G ms g)) (hr : Room k X.A) (hg : Gl X x) (ha : JA X G ms (e :: es) d) (hdb : (x == ("__debug__" : Str)) = false := by decide)
    (he : starEach (e :: es) X.env = (false, eval e X.env) :: starEach es X.env := by rfl) (hpl : (backTo pos (starEach es X.env)).any (·.1) = false := by rfl) : JP X G (.Call (.Name x p) (e :: es) [] pos) (dCall g d) :=
  imp (pe_fn (E := E0) h hr hg pass0 ha hdb he hpl) fun σ H Q ⟨c, ow, ps, w, R, e, q⟩ => by
    obtain ⟨ws, e1, e2⟩ := bind_ok e
    exact ⟨c, ow, ps, ws, R, e1, fun vs H' s r => ⟨_, ws, w, (R.grow s).used, r, e2, fun v H2 s2 r2 => q v H2 (s.trans s2) r2⟩⟩
/-! ### methods -/
theorem zip_none {f : Str} : ∀ {ns : List Str} {vs : List V}, f ∉ ns → (ns.zip vs).lookup f = none
  | [], vs, _ => rfl
  | n :: ns, [], _ => rfl
  | n :: ns, u :: vs, h => by
    have h1 : (f == n) = false := by
      have : f ≠ n := fun z => h (by rw [z]; exact List.mem_cons_self)
      simpa using this
    rw [List.zip_cons_cons, List.lookup_cons, h1]
    exact zip_none fun z => h (List.mem_cons_of_mem _ z)
structure MtOk (P : Program) (w : World) (K : PySem.W.Frag) (mg : Str → Option Value) (base : Heap) (G : Pg) (k : Nat) (m : Str) (ms : List Bool) (tab : List (Nat × Nat)) (g : Nat → List PV → Rx PV) : Prop where
  all : ∀ c f, tab.lookup c = some f → MethAt P w K mg base CX0 k (G.cA c) m (spG K G (false :: ms) (g f)) ∧ m ∉ G.fN c
def dMeth (tab : List (Nat × Nat)) (g : Nat → List PV → Rx PV) (d : DP) (r : DA) : DP := fun ps => (d ps).bind fun x => match x with
  | .obj c xs => (match tab.lookup c with | some f => (r ps).bind fun ws => g f (.obj c xs :: ws) | none => .bad)
  | _ => .bad
theorem meth_of {tab : List (Nat × Nat)} {g : Nat → List PV → Rx PV} (h : MtOk X.prog X.w X.K X.mg X.base G k m ms tab g) {σ : L2.St} {H : Hp} {Q : VK} (hq : tPv X.K G (dMeth tab g da d) σ H Q) :
    tMethD (ι := { q : Nat × Nat // tab.lookup q.1 = some q.2 }) (fun i => G.cA i.1.1) m (fun i => spG X.K G (false :: ms) (g i.1.2)) E0 (tPv X.K G da) (tPa X.K G ms d) σ H Q := by
  obtain ⟨c, ow, ps, w, R, e, q⟩ := hq
  obtain ⟨x, e1, e2⟩ := bind_ok e
  refine ⟨c, ow, ps, x, R, e1, fun v H' s r => ?_⟩
  cases x with
  | obj kc xs =>
    have e2 : (match tab.lookup kc with | some f => (d ps).bind fun ws => g f (.obj kc xs :: ws) | none => .bad) = .ok w := e2
    split at e2
    · rename_i f hf
      obtain ⟨ws, e3, e4⟩ := bind_ok e2
      obtain ⟨a, dx, vs, ev, hH, hl, na, rs⟩ := id r
      refine ⟨⟨(kc, f), hf⟩, a, dx, _, ev, hH, zip_none (h.all kc f hf).2, c, ow, ps, ws, R.grow s, e3, fun vs2 H2 s2 r2 => ?_⟩
      exact ⟨_, .obj kc xs :: ws, w, ((R.grow s).grow s2).used, ⟨_, _, _, _, rfl, rfl, by rw [if_neg Bool.false_ne_true]; exact r.same s2, r2⟩, e4, fun v3 H3 s3 r3 => q v3 H3 ((s.trans s2).trans s3) r3⟩
    · cases e2
  | _ => cases e2
theorem p_meth {tab : List (Nat × Nat)} {g : Nat → List PV → Rx PV} {pl : Sem Bool} (h : MtOk X.prog X.w X.K X.mg X.base G k m ms tab g) (hr : Room k X.A) (ho : JP X G o da) (ha : JA X G ms (e :: es) d)
    (hst : starEach (e :: es) X.env = (false, eval e X.env) :: starEach es X.env := by rfl) (hpl : (backTo pos (starEach es X.env)).any (·.1) = false := by rfl)
    (ht : eval (.Call (.Attribute o m apos) (e :: es) [] pos) X.env = (do
      let ov ← eval o X.env
      standAt apos.atName
      let (f, first) ← holding [ov] (getMethod ov m pl)
      callWith pos f first (backTo pos (starEach (e :: es) X.env)) (backToKw pos (keywordEach [] X.env))) := by rfl) : JP X G (.Call (.Attribute o m apos) (e :: es) [] pos) (dMeth tab g da d) :=
  imp (pe_methD (ι := { q : Nat × Nat // tab.lookup q.1 = some q.2 }) (pl := pl) ho (fun i => (h.all i.1.1 i.1.2 i.2).1) hr pass0 ha hst hpl ht) fun _ _ _ => meth_of h
/-! ### new instances -/
def dNew (c : Nat) (d : DA) : DP := fun ps => (d ps).bind fun ws => .ok (.obj c ws)
theorem p_new {c : Nat} (h : NewAt X.prog X.w X.K X.mg X.base x (G.cA c) (G.fN c)) (hr : Room (k + 2) X.A) (hg : Gl X x) (ha : JA X G ms (e :: es) d) (hl : (G.fN c).length = ms.length) (hm : ms.all (! ·) = true := by rfl) (hdb : (x == ("__debug__" : Str)) = false := by decide)
    (he : starEach (e :: es) X.env = (false, eval e X.env) :: starEach es X.env := by rfl) (hpl : (backTo pos (starEach es X.env)).any (·.1) = false := by rfl) : JP X G (.Call (.Name x p) (e :: es) [] pos) (dNew c d) :=
  imp (pe_new h hr hg ha hdb he hpl) fun σ H Q ⟨f, ow, ps, w, R, e, q⟩ => by
    obtain ⟨ws, e1, e2⟩ := bind_ok e
    cases e2
    refine ⟨f, ow, ps, ws, R, e1, fun vs H' s r => ⟨by rw [r.len.2, hl], fun y dy n1 n2 ne => ?_⟩⟩
    have sn := newI_same (C := G.cA c) (fs := (G.fN c).zip vs) n1 n2
    exact q _ _ (s.trans sn) ⟨y, dy, vs, rfl, newI_at, by rw [r.len.2, hl], fun z => (R.grow s).used y z n1, (r.reps' hm).same sn⟩
theorem p_new0 {c : Nat} (M : Mk0 X.K (G.cA c)) (hf : G.fN c = []) (hg : Gl X x) (hm : X.mg x = some (.ref (G.cA c))) (hdb : (x == ("__debug__" : Str)) = false := by decide) : JP X G (.Call (.Name x p) [] [] pos) (dC (.obj c [])) :=
  imp (pe_make00 M hg hm hdb) fun σ H Q ⟨f, ow, ps, w, R, e, q⟩ => by
    cases e
    intro y dy n1 n2 ne
    have sn := newI_same (C := G.cA c) (fs := []) n1 n2
    exact q _ _ sn ⟨y, dy, [], rfl, by rw [List.zip_nil_right]; exact newI_at, by rw [hf]; rfl, fun z => R.used y z n1, rfl⟩
/-! ### targets -/
abbrev DG := PV → PSt → Rx PSt
/-- a frozen value is stored: the heap stays -/
def tG (K : PySem.W.Frag) (G : Pg) (g : DG) : TG := fun v σ H Q => ∃ (c : Fr) (ow : Ows) (ps : PSt) (w : PV) (ps' : PSt), RepS K G c H ow ps σ ∧ Rep K G H (av c ow) w v ∧ g w ps = .ok ps' ∧
  ∀ σ' ow', RepS K G c H ow' ps' σ' → (∀ a, av c ow' a → av c ow a) → Q σ' H
def tGs (K : PySem.W.Frag) (G : Pg) (g : List PV → PSt → Rx PSt) : TGs := fun vs σ H Q => ∃ (c : Fr) (ow : Ows) (ps : PSt) (ws : List PV) (ps' : PSt), RepS K G c H ow ps σ ∧ Reps K G H (av c ow) ws vs ∧ g ws ps = .ok ps' ∧
  ∀ σ' ow', RepS K G c H ow' ps' σ' → (∀ a, av c ow' a → av c ow a) → Q σ' H
abbrev JG (X : Cx) (G : Pg) (t : Expr) (g : DG) : Prop := PG X t (tG X.K G g)
abbrev JGs (X : Cx) (G : Pg) (t : List Expr) (g : List PV → PSt → Rx PSt) : Prop := PGs X t (tGs X.K G g)
theorem impG {e : Expr} {t t' : TG} (h : PG X e t) (f : ∀ v σ H Q, t' v σ H Q → t v σ H Q) : PG X e t' := fun pins s σ H v u Q I r q => h pins s σ H v u Q I r (f v σ H Q q)
theorem impGs {e : List Expr} {t t' : TGs} (h : PGs X e t) (f : ∀ v σ H Q, t' v σ H Q → t v σ H Q) : PGs X e t' := fun pins s σ H v u Q I r q => h pins s σ H v u Q I r (f v σ H Q q)
def gSet (i : Nat) : DG := fun w ps => .ok (ps.set i (.v w))
theorem g_name {i : Nat} (hN : X.N.Nodup) (hi : X.N[i]? = some x) (hx : Loc X.env.scope x) (hf : X.fn x = true ∨ X.env.scope.names.lookup x = some .local := by first | exact .inl rfl | exact .inr rfl | assumption) : JG X G (.Name x pos) (gSet i) :=
  impG (pg_name hN hi hx hf) fun v σ H Q ⟨c, ow, ps, w, ps', R, r, e, q⟩ => by
    cases e
    exact q _ _ (R.setV r) av_off
def gNilD : List PV → PSt → Rx PSt
  | [], ps => .ok ps
  | _ :: _, _ => .bad
def gConsD (g : DG) (gs : List PV → PSt → Rx PSt) : List PV → PSt → Rx PSt
  | w :: ws, ps => (g w ps).bind fun ps' => gs ws ps'
  | [], _ => .bad
theorem gs_nil : JGs X G [] gNilD := impGs pgs_nil fun vs σ H Q ⟨c, ow, ps, ws, ps', R, r, e, q⟩ => by
  cases ws with
  | nil => cases e; exact ⟨r, q σ ow R fun _ z => z⟩
  | cons w ws => cases e
theorem gs_cons {t : Expr} {ts : List Expr} {g : DG} {gs : List PV → PSt → Rx PSt} (h1 : JG X G t g) (h2 : JGs X G ts gs) (hs : (assignEach (t :: ts) X.env).map (·.2) = assign t X.env :: (assignEach ts X.env).map (·.2) := by rfl) : JGs X G (t :: ts) (gConsD g gs) :=
  impGs (pgs_cons h1 h2 hs) fun vs σ H Q ⟨c, ow, ps, ws, ps', R, r, e, q⟩ => by
    cases ws with
    | nil => cases e
    | cons w ws =>
      obtain ⟨v, vr, rfl, r1, r2⟩ := r
      obtain ⟨ps1, e1, e2⟩ := bind_ok e
      refine ⟨v, vr, rfl, c, ow, ps, w, ps1, R, r1, e1, fun σ' ow' R' wk => ?_⟩
      exact ⟨c, ow', ps1, ws, ps', R', (Kp.weak wk).reps r2, e2, fun σ2 ow2 R2 wk2 => q σ2 ow2 R2 fun a z => wk a (wk2 a z)⟩
def gTupD (n : Nat) (gs : List PV → PSt → Rx PSt) : DG := fun w ps => match w with | .tup ws => if ws.length = n then gs ws ps else .bad | _ => .bad
theorem g_tup {ts : List Expr} {j n : Nat} {gs : List PV → PSt → Rx PSt} (hc : X.calm = true) (h : JGs X G ts gs) (hn : (assignEach ts X.env).length = n := by rfl) (hst : (assignEach ts X.env).findIdx? (·.1) = none := by rfl) : JG X G (.Tuple ts j pos) (gTupD n gs) :=
  impG (pg_tup hc h hn hst) fun v σ H Q ⟨c, ow, ps, w, ps', R, r, e, q⟩ => by
    cases w with
    | tup ws =>
      have e : (if ws.length = n then gs ws ps else .bad) = .ok ps' := e
      split at e
      · rename_i hl
        obtain ⟨a, vs, rfl, sq, rs⟩ := r
        exact ⟨a, vs, rfl, sq, by rw [← rs.len]; exact hl, c, ow, ps, ws, ps', R, rs, e, q⟩
      · cases e
    | _ => cases e
end
end DN
end
section
set_option Elab.async false
set_option linter.all false
set_option maxRecDepth 100000
set_option maxHeartbeats 4000000
namespace DN
open PySem PySem.Spec PyProof.Rows L2
/-! ### what is walked -/
/-- J yields vs, as long as frozen things stay -/
def Wk (K : PySem.W.Frag) (G : Pg) (J : It) (H : Hp) (A : Av) (vs : List V) : Prop := ∀ H' A', Kp K G H A H' A' →
  (∀ (i : Nat) (x : V), vs[i]? = some x → J.go i H' ∧ ∀ y H2, J.yld i H' y H2 → H2 = H' ∧ y = x) ∧ J.stop vs.length H'
def WkS (J : It) (H : Hp) (vs : List V) : Prop := ∀ H', Same H H' → (∀ (i : Nat) (x : V), vs[i]? = some x → J.go i H' ∧ ∀ y H2, J.yld i H' y H2 → H2 = H' ∧ y = x) ∧ J.stop vs.length H'
def tPi (K : PySem.W.Frag) (G : Pg) (d : DA) : TI := fun σ H R => ∃ (c : Fr) (ow : Ows) (ps : PSt) (ws : List PV), RepS K G c H ow ps σ ∧ d ps = .ok ws ∧ ∀ J H' vs, Same H H' → Reps K G H' (av c ow) ws vs → Wk K G J H' (av c ow) vs → R J H'
def tPs (K : PySem.W.Frag) (G : Pg) (d : DA) : TI := fun σ H R => ∃ (c : Fr) (ow : Ows) (ps : PSt) (ws : List PV), RepS K G c H ow ps σ ∧ d ps = .ok ws ∧ ∀ J H' vs, Same H H' → Reps K G H' (av c ow) ws vs → WkS J H' vs → R J H'
abbrev JI (X : Cx) (G : Pg) (tg it : Expr) (d : DA) : Prop := PI X tg it (tPi X.K G d)
abbrev JIs (X : Cx) (G : Pg) (tg it : Expr) (d : DA) : Prop := PI X tg it (tPs X.K G d)
section
variable {X : Cx} {G : Pg} {e a b o tg : Expr} {es : List Expr} {da db : DP} {d : DA} {pos p apos : Pos} {x m : Str} {k : Nat} {ms : List Bool}
theorem impI {it : Expr} {t t' : TI} (h : PI X tg it t) (f : ∀ σ H R, t' σ H R → t σ H R) : PI X tg it t' := fun pins s σ H R I q => h pins s σ H R I (f σ H R q)
def dItems (d : DP) : DA := fun ps => (d ps).bind fun x => match x with | .lst xs => .ok xs | _ => .bad
def dItemsT (d : DP) : DA := fun ps => (d ps).bind fun x => match x with | .tup xs => .ok xs | _ => .bad
theorem it_list {K : PySem.W.Frag} {a : Addr} {vs : List V} {H : Hp} (h : SqL K H a vs) : (∀ (i : Nat) (x : V), vs[i]? = some x → (Itl K a).go i H ∧ ∀ y H2, (Itl K a).yld i H y H2 → H2 = H ∧ y = x) ∧ (Itl K a).stop vs.length H :=
  ⟨fun i x e => ⟨⟨vs, x, h, e⟩, fun y H2 ⟨e2, hy⟩ => ⟨e2, Option.some.inj ((hy vs h).symm.trans e)⟩⟩, ⟨vs, h, Nat.le_refl _⟩⟩
theorem i_list (h : JP X G e da) : JI X G tg e (dItems da) := impI (pi_list h) fun σ H R ⟨c, ow, ps, ws, S, e, q⟩ => by
  obtain ⟨x, e1, e2⟩ := bind_ok e
  refine ⟨c, ow, ps, x, S, e1, fun v H' s r => ?_⟩
  split at e2
  · cases e2
    obtain ⟨a, vs, rfl, rd, rs⟩ := r
    exact ⟨a, rfl, ⟨vs, rd.sq⟩, q _ H' vs s rs fun H2 A2 k => it_list (k.rdL rd).sq⟩
  · cases e2
theorem s_list (h : JB X G e da) : JIs X G tg e (dItems da) := impI (pi_list h) fun σ H R ⟨c, ow, ps, ws, S, e, q⟩ => by
  obtain ⟨x, e1, e2⟩ := bind_ok e
  refine ⟨c, ow, ps, x, S, e1, fun v H' s r => ?_⟩
  split at e2
  · cases e2
    obtain ⟨a, vs, rfl, rd, rs⟩ := r.lst
    exact ⟨a, rfl, ⟨vs, rd⟩, q _ H' vs s rs fun H2 k => it_list (k.seq rd)⟩
  · cases e2
theorem s_of_i (h : JI X G tg e d) : JIs X G tg e d := impI h fun σ H R ⟨c, ow, ps, ws, S, e, q⟩ => ⟨c, ow, ps, ws, S, e, fun J H' vs s rs w => q J H' vs s rs fun H2 k => w H2 _ (Kp.of_same k)⟩
def rngP (lo : Int) (n : Nat) : List PV := (List.range n).map fun (i : Nat) => PV.int (lo + (i : Int))
theorem rng_reps {K : PySem.W.Frag} {H : Hp} {A : Av} {lo : Int} {n : Nat} : Reps K G H A (rngP lo n) (rngV lo n) := by
  unfold rngP rngV
  generalize List.range n = l
  induction l with
  | nil => rfl
  | cons x xs ih => exact ⟨_, _, rfl, rfl, ih⟩
theorem it_rng {lo : Int} {n : Nat} {H : Hp} : (∀ (i : Nat) (x : V), (rngV lo n)[i]? = some x → (Itr lo n).go i H ∧ ∀ y H2, (Itr lo n).yld i H y H2 → H2 = H ∧ y = x) ∧ (Itr lo n).stop (rngV lo n).length H := by
  refine ⟨fun i x e => ?_, by show n ≤ (rngV lo n).length; rw [rngV_len]; exact Nat.le_refl _⟩
  have h := (List.getElem?_eq_some_iff.mp e).1
  rw [rngV_len] at h
  rw [rngV_at h] at e
  exact ⟨h, fun y H2 ⟨e2, hy⟩ => ⟨e2, hy.trans (Option.some.inj e)⟩⟩
def dRng1 (d : DA) : DA := fun ps => (d ps).bind fun ws => match ws with | [.int j] => if -(2 ^ 62) ≤ j ∧ j < 2 ^ 62 then .ok (rngP 0 j.toNat) else .bad | _ => .bad
theorem i_rng1 {ea : Expr} (hg : Gl X "range") (hm : X.mg "range" = none) (ha : JA X G [false] [ea] d) (hs : starEach [ea] X.env = [(false, eval ea X.env)] := by rfl) : JI X G tg (.Call (.Name "range" p) [ea] [] pos) (dRng1 d) :=
  impI (pi_range1 hg hm ha hs) fun σ H R ⟨c, ow, ps, ws, S, e, q⟩ => by
    obtain ⟨xs, e1, e2⟩ := bind_ok e
    refine ⟨c, ow, ps, xs, S, e1, fun vs H' s r => ?_⟩
    split at e2
    · split at e2
      · rename_i j hj
        cases e2
        obtain ⟨v, vr, rfl, r1, rfl⟩ := RepM.reps' r rfl
        exact ⟨j, by rw [show v = V.int j from r1], hj.1, hj.2, q _ H' _ s rng_reps fun _ _ _ => it_rng⟩
      · cases e2
    · cases e2
abbrev JTs (X : Cx) (G : Pg) (ifs : List Expr) (d : DT) : Prop := PTs X ifs (tPt X.K G d)
def dYes : DT := fun _ => .ok true
theorem ts_nil : JTs X G [] dYes := fun pins s σ H Q I h => pts_nil pins s σ H Q I (by
  obtain ⟨c, ow, ps, b, R, e, q⟩ := h
  cases e
  exact q H (Same.refl H))
theorem ts_one {c : Expr} {dt : DT} (h : JT X G c dt) : JTs X G [c] dt := pts_one h
def compD (g : DG) (dt : DT) (de : DP) : List PV → PSt → Rx (List PV)
  | [], _ => .ok []
  | x :: xs, ps => (g x ps).bind fun ps1 => (dt ps1).bind fun b => if b = true then (de ps1).bind fun y => (compD g dt de xs ps1).bind fun r => .ok (y :: r) else compD g dt de xs ps1
def dComp (own : List Str) (caps : List (Str × Nat)) (di : DA) (g : DG) (dt : DT) (de : DP) : DA := fun ps => (di ps).bind fun ws => if ws.length ≤ sizeLine then compD g dt de ws (capP own caps ps) else .bad
theorem comp_go {own : List Str} {caps : List (Str × Nat)} {di : DA} {g : DG} {dt : DT} {de : DP} (gk : ∀ (w : PV) (ps ps' : PSt), g w ps = .ok ps' → ∀ (i : Nat) (x : Ow), ps'[i]? = some (Sl.own x) → ps[i]? = some (Sl.own x)) {σ : L2.St} {H : Hp} {Q : VK}
    (h : tPn X.K G (dComp own caps di g dt de) σ H Q) : tComp own caps (tPs X.K G di) (tG X.K G g) (tPt X.K G dt) (tPv X.K G de) σ H Q := by
  obtain ⟨c, ow, ps, rs, R, e, q⟩ := h
  obtain ⟨ws, e1, e2⟩ := bind_ok e
  split at e2
  · rename_i hsz
    refine ⟨c, ow, ps, ws, R, e1, fun J H1 vs s1 rep wk => ?_⟩
    intro D hD
    have R1 := R.grow s1
    have hD0 : H D = none := s1.free hD
    let AD : Av := fun a => av c ow a ∨ a = D
    let B1 : Av := fun p => H1 p ≠ none
    have usedB : ∀ {H' : Hp}, Same H1 H' → Used H' B1 := fun {H'} s a z => by
      cases e3 : H1 a with
      | none => exact absurd e3 z
      | some o => rw [s _ _ e3]; simp
    have usedD : ∀ {H' : Hp}, Same H1 H' → H' D ≠ none → Used H' AD := by
      intro H' s hd a z
      rcases z with z | z
      · cases e3 : H1 a with
        | none => exact absurd e3 (R1.used a z)
        | some o => rw [s _ _ e3]; simp
      · rw [z]; exact hd
    refine ⟨fun i m σ' H' => ∃ (ps' : PSt) (ys : List PV) (us : List V) (rest : List PV), m = ws.length - i ∧ i ≤ ws.length ∧ RepF X.K G B1 H' AD ps' σ' ∧ (∀ (j : Nat) (x : Ow), ps'[j]? ≠ some (Sl.own x)) ∧ Same H1 H' ∧ Reps X.K G H' AD ws vs ∧ H' D = some (.lst us) ∧ Reps X.K G H' AD ys us ∧ ys.length ≤ i ∧
        compD g dt de (ws.drop i) ps' = .ok rest ∧ ys ++ rest = rs, ?_, ?_⟩
    · have sD : Same H1 (upd H1 D (.lst [])) := same_upd hD _
      have k : Kp X.K G H1 (av c ow) (upd H1 D (.lst [])) AD := Kp.take hD sD fun a z => z.symm
      have F0 := R1.caps own caps
      refine ⟨_, capP own caps ps, [], [], rs, rfl, Nat.zero_le _, ⟨F0.len, fun i s o h1 h2 => ?_⟩, fun j x z => ?_, sD, k.reps rep, upd_same, rfl, Nat.le_refl _, e2, rfl⟩
      · have q := F0.slot i s o h1 h2
        cases s with
        | no => exact True.intro
        | v w => obtain ⟨v, e, r⟩ := q; exact ⟨v, e, k.rep r⟩
        | own x => exact q.elim
        | bor w =>
          obtain ⟨v, e, r⟩ := q
          refine ⟨v, e, ?_⟩
          rcases r with r | ⟨x, p, e1, e2, r, n⟩
          · exact .inl (k.rep r)
          · obtain ⟨o', eo, _⟩ := r.at
            exact .inr ⟨x, p, e1, e2, r.keep k (by rw [sD _ _ eo, eo]), n⟩
      · have hl : j < (capP own caps ps).length := (List.getElem?_eq_some_iff.mp z).1
        have hl2 : j < (capS own caps σ).length := by rw [← F0.len]; exact hl
        exact (F0.slot j _ _ z (List.getElem?_eq_getElem hl2)).elim
    · rintro i m σ' H' ⟨ps', ys, us, rest, rfl, hi', F, no, sm, rep', hH, ry, hy, ec, er⟩
      have lv := rep'.len
      have wk' := wk H' sm
      rcases Nat.lt_or_ge i ws.length with hlt | hge
      · right
        have hdr : ws.drop i = ws[i] :: ws.drop (i + 1) := List.drop_eq_getElem_cons hlt
        rw [hdr] at ec
        have hgi : ws[i]? = some ws[i] := List.getElem?_eq_getElem hlt
        obtain ⟨v, hv, rv⟩ := rep'.get hgi
        obtain ⟨go, yl⟩ := wk'.1 i v hv
        refine ⟨go, _, fun _ _ h => h, fun y H2 hyl => ?_⟩
        obtain ⟨rfl, rfl⟩ := yl y H2 hyl
        obtain ⟨ps1, c1, ec⟩ := bind_ok ec
        obtain ⟨bb, c2, ec⟩ := bind_ok ec
        have u' : Used H2 AD := usedD sm (by rw [hH]; simp)
        have S' := F.toS u' (usedB sm)
        have kav : Kp X.K G H2 AD H2 (av ⟨H2, AD, B1⟩ ow0) := Kp.weak fun a z => av0 a z
        refine ⟨⟨H2, AD, B1⟩, ow0, ps', ws[i], ps1, S', kav.rep rv, c1, fun σ3 ow3 S3 wk3 => ?_⟩
        have no1 : ∀ (j : Nat) (x : Ow), ps1[j]? ≠ some (Sl.own x) := fun j x z => no j x (gk _ _ _ c1 j x z)
        have eow : ow3 = ow0 := by
          funext j
          cases q : ow3 j with
          | none => rfl
          | some p' =>
            have hj : j < ps1.length := by
              rcases Nat.lt_or_ge j ps1.length with z | z
              · exact z
              · rw [S3.out j z] at q; cases q
            obtain ⟨o', eo, qq⟩ := S3.get (List.getElem?_eq_getElem hj)
            cases es : ps1[j] with
            | no => rw [es] at qq; rw [show ow3 j = none from qq] at q; cases q
            | v w => rw [es] at qq; rw [qq.1] at q; cases q
            | bor w => rw [es] at qq; rw [qq.1] at q; cases q
            | own x => exact absurd (by rw [List.getElem?_eq_getElem hj, es]) (no1 j x)
        subst eow
        refine ⟨⟨H2, AD, B1⟩, ow0, ps1, bb, S3, c2, fun H4 s4 => ?_⟩
        have S4 := S3.grow s4
        have aft : ∀ {H5 : Hp}, Same H2 H5 → RepF X.K G B1 H5 AD ps1 σ3 := fun s5 => RepF.ofS (S3.grow s5)
        split at ec
        · rename_i hb
          subst hb
          refine iteT ?_
          obtain ⟨yw, c3, ec⟩ := bind_ok ec
          obtain ⟨r', c4, ec⟩ := bind_ok ec
          cases ec
          refine ⟨⟨H2, AD, B1⟩, ow0, ps1, yw, S4, c3, fun yv H5 s5 r5 => ?_⟩
          have s25 := s4.trans s5
          have hH5 : H5 D = some (.lst us) := s25 _ _ hH
          have r5' : Rep X.K G H5 AD yw yv := (Kp.weak fun a z => Or.inl z).rep r5
          have mD : Mt (HO.lst us) := And.intro (fun _ z => by cases z) (fun _ _ z => by cases z)
          have kD : ∀ u, Kp X.K G H5 AD (upd H5 D u) AD := fun u => Kp.own (.inr rfl) hH5 mD
          have F5 := aft s25
          refine ⟨us, hH5, ?_, ws.length - (i + 1), by omega, ps1, ys ++ [yw], us ++ [yv], r', rfl, hlt, ⟨F5.len, fun j s o h1 h2 => ?_⟩, no1, fun b u hb => ?_, (kD _).reps (rep'.same s25), upd_same, (kD _).reps ((ry.same s25).snoc r5'), by rw [List.length_append]; simp; omega, c4, by rw [← er, List.append_assoc]; rfl⟩
          · rw [← ry.len]; omega
          · have q := F5.slot j s o h1 h2
            cases s with
            | no => exact True.intro
            | v w => obtain ⟨v, e, r⟩ := q; exact ⟨v, e, (kD _).rep r⟩
            | own x => exact q.elim
            | bor w =>
              obtain ⟨v, e, r⟩ := q
              refine ⟨v, e, ?_⟩
              rcases r with r | ⟨x, p', e1', e2', r, n⟩
              · exact .inl ((kD _).rep r)
              · exact .inr ⟨x, p', e1', e2', r.keep (kD _) (upd_ne (by intro z; subst z; exact n hD)), n⟩
          · rw [upd_ne (ne_of_none hb hD)]; exact s25 _ _ (sm _ _ hb)
        · rename_i hb
          have : bb = false := by simpa using hb
          subst this
          exact iteF ⟨ws.length - (i + 1), by omega, ps1, ys, us, rest, rfl, hlt, aft s4, no1, sm.trans s4, rep'.same s4, s4 _ _ hH, ry.same s4, by omega, ec, er⟩
      · left
        have : i = ws.length := Nat.le_antisymm hi' hge
        subst this
        rw [List.drop_length] at ec
        cases ec
        rw [List.append_nil] at er
        subst er
        refine ⟨by rw [lv]; exact wk'.2, q D us H' (s1.trans sm) hD0 hH ry⟩
  · cases e2
theorem n_comp {elt iter : Expr} {ifs : List Expr} {scope : Scope} {own : List Str} {caps : List (Str × Nat)} {di : DA} {g : DG} {dt : DT} {de : DP} (S : CompScope X scope own caps) (hc : X.calm = true) (hi : JIs X G tg iter di)
    (hg : ∀ C s₀ H₀ fp, JG (cxB X scope C (capN own caps) s₀ H₀ fp) G tg g) (ht : ∀ C s₀ H₀ fp, JTs (cxB X scope C (capN own caps) s₀ H₀ fp) G ifs dt) (he : ∀ C s₀ H₀ fp, JP (cxB X scope C (capN own caps) s₀ H₀ fp) G elt de)
    (gk : ∀ (w : PV) (ps ps' : PSt), g w ps = .ok ps' → ∀ (i : Nat) (x : Ow), ps'[i]? = some (Sl.own x) → ps[i]? = some (Sl.own x))
    (hs : ∀ x, foldedSetIterable iter X.env x = pure x := by intro _; rfl) : JN X G (.ListComp elt [⟨tg, iter, ifs, 0⟩] scope pos) (dComp own caps di g dt de) :=
  imp (pe_comp (wi := tPs X.K G di) (g := tG X.K G g) (tc := tPt X.K G dt) (te := tPv X.K G de) S hc hi hg ht he hs) fun σ H Q h => comp_go gk h
end
end DN
end
section
set_option Elab.async false
set_option linter.all false
set_option maxRecDepth 100000
set_option maxHeartbeats 4000000
namespace DN
open PySem PySem.Spec PyProof.Rows L2
section
variable {X : Cx} {G : Pg} {e a b o tg : Expr} {es : List Expr} {da db : DP} {d : DA} {dm : DM} {dma : DMA} {pos p apos cpos : Pos} {x m : Str} {k i : Nat} {ms : List Bool}
/-! ### expressions that change things of one's own -/
def mNil : DMA := fun ps => .ok ([], ps)
def mCons (a : DM) (r : DMA) : DMA := fun ps => (a ps).bind fun x => (r x.2).bind fun y => .ok (x.1 :: y.1, y.2)
def mTup (d : DMA) : DM := fun ps => (d ps).bind fun x => if x.1.length ≤ 1000 then .ok (.tup x.1, x.2) else .bad
def mPop (i : Nat) : DM := fun ps => match ps[i]? with
  | some (.own (.lst xs)) => (match xs.getLast? with | some w => .ok (w, ps.set i (.own (.lst xs.dropLast))) | none => .bad)
  | _ => .bad
theorem Reps.last {K : PySem.W.Frag} {H : Hp} {A : Av} {ws : List PV} {vs : List V} {w : PV} (r : Reps K G H A ws vs) (e : ws.getLast? = some w) : ∃ v, vs[vs.length - 1]? = some v ∧ Rep K G H A w v := by
  rw [List.getLast?_eq_getElem?] at e
  obtain ⟨v, h1, h2⟩ := r.get e
  exact ⟨v, by rw [← r.len]; exact h1, h2⟩
theorem Reps.dropLast {K : PySem.W.Frag} {H : Hp} {A : Av} {ws : List PV} {vs : List V} (r : Reps K G H A ws vs) : Reps K G H A ws.dropLast vs.dropLast := by
  rw [List.dropLast_eq_take, List.dropLast_eq_take, r.len]
  exact r.take _
def mApp (i : Nat) (d : DM) : DM := fun ps => match ps[i]? with
  | some (.own (.lst _)) => (d ps).bind fun x => (match x.2[i]? with | some (.own (.lst xs)) => if xs.length < sizeLine then .ok (.non, x.2.set i (.own (.lst (xs ++ [x.1])))) else .bad | _ => .bad)
  | _ => .bad
theorem m_app (i : Nat) (he : JM X G e dm) (hline : (apos.endLine == cpos.line) = true := by rfl) (hN : X.N[i]? = some x := by rfl) (hv : Vis X.env.scope x := by first | exact Or.inl rfl | exact Or.inr (Or.inl rfl) | exact Or.inr (Or.inr rfl)) (hd : (x == ("__debug__" : Str)) = false := by decide)
    (hcd : (x == ("__classdict__" : Str)) = false := by decide) (hst : starEach [e] X.env = (false, eval e X.env) :: starEach [] X.env := by rfl) (hbase : attributeBase (.Name x pos) "append" X.env (eval (.Name x pos) X.env) = eval (.Name x pos) X.env := by rfl)
    (hpl : (backTo cpos (starEach ([] : List Expr) X.env)).any (·.1) = false := by rfl)
    (hfew : ((backTo cpos (starEach [e] X.env)).all (fun x => !x.1) && (backToKw cpos (keywordEach [] X.env)).all (fun x => x.1.isSome) && decide (([e] : List Expr).length + ([] : List Keyword).length + (if ([] : List Keyword).isEmpty then 0 else 1) < 30)) = true := by rfl) :
    JM X G (.Call (.Attribute (.Name x pos) "append" apos) [e] [] cpos) (mApp i dm) :=
  imp (pe_bm PySem.F.plainAttrs_list PySem.F.slot_list_append PySem.F.type_list_append mt_append (pe_var hN hv hd hcd) (pa_cons he pa_nil hst) hbase hfew hline hst hpl) fun σ H Q ⟨c, ow, ps, w, ps', R, e, q⟩ => by
    unfold mApp at e
    split at e
    · rename_i xs0 hx0
      obtain ⟨⟨w1, p1⟩, e1, e⟩ := bind_ok e
      split at e
      · rename_i xs hx
        split at e
        · rename_i hl
          cases e
          obtain ⟨p0, e2, e3, vs0, hH0, _⟩ := R.getO hx0
          refine ⟨.ref p0, e3, .inl ⟨rfl, _, SqL.of hH0⟩, c, ow, ps, w1, p1, R, e1, fun v H1 ow1 R1 k1 r1 => ?_⟩
          obtain ⟨p, e4, e5, vs, hH, rs⟩ := R1.getO hx
          rw [e3] at e5; cases e5
          have mD : Mt (HO.lst vs) := And.intro (fun _ z => by cases z) (fun _ _ z => by cases z)
          have k0 : Kp X.K G H1 (av c ow1) (upd H1 p0 (.lst (vs ++ [v]))) (av c ow1) := Kp.own (.inr ⟨i, e4⟩) hH mD
          have := R1.chg (y := .lst (xs ++ [w1])) (u := .lst (vs ++ [v])) hx e4 ⟨_, upd_same, k0.reps (rs.snoc r1)⟩
          exact ⟨p0, vs, v, rfl, rfl, hH, by rw [← rs.len]; exact hl, q .non _ ow1 this.1 (k1.trans this.2) rfl⟩
        · cases e
      · cases e
    · cases e
/-- the slot's own thing is handed on, frozen from now on -/
def mFrz (i : Nat) : DM := fun ps => match ps[i]? with
  | some (.own y) => .ok (y.pv, ps.set i (.v y.pv))
  | some (.v w) => .ok (w, ps)
  | _ => .bad
theorem m_frz (i : Nat) (hN : X.N[i]? = some x := by rfl) (hv : Vis X.env.scope x := by first | exact Or.inl rfl | exact Or.inr (Or.inl rfl) | exact Or.inr (Or.inr rfl)) (hd : (x == ("__debug__" : Str)) = false := by decide)
    (hcd : (x == ("__classdict__" : Str)) = false := by decide) : JM X G (.Name x pos) (mFrz i) := imp (pe_var hN hv hd hcd) fun σ H Q ⟨c, ow, ps, w, ps', R, e, q⟩ => by
  unfold mFrz at e
  split at e
  · rename_i y hy
    cases e
    obtain ⟨p, e1, R', r', k'⟩ := R.frz hy
    exact ⟨_, e1, q _ H _ R' k' r'⟩
  · rename_i w' hw
    cases e
    obtain ⟨v, ev, r⟩ := R.getV hw
    exact ⟨v, ev, q v H ow R (Kp.of_same (Same.refl H)) r⟩
  · cases e
/-- f(..), an argument of which changes things of one's own, or is handed on -/
def mCall (f : List PV → Rx PV) (d : DMA) : DM := fun ps => (d ps).bind fun x => (f x.1).bind fun w => .ok (w, x.2)
end
theorem av_on {c : Fr} {ow : Ows} {i : Nat} {p : Addr} : ∀ a, av c (onW ow i p) a → a = p ∨ av c ow a := by
  intro a h
  rcases h with h | ⟨j, h⟩
  · exact .inr (.inl h)
  · unfold onW at h
    split at h
    · cases h; exact .inl rfl
    · exact .inr (.inr ⟨j, h⟩)
/-! ### statements -/
inductive Rs where
  | nx (ps : PSt) | ret (w : PV) | retn (xs : List PV) | brk (ps : PSt) | cnt (ps : PSt) | bad | exc (c : Nat)
abbrev DS := PSt → Rs
def EndsAt (K : PySem.W.Frag) (G : Pg) (c : Fr) (H : Hp) (A : Av) (D : Ends) : Rs → Prop
  | .nx ps => ∀ σ H' ow, RepS K G c H' ow ps σ → Kp K G H A H' (av c ow) → D.nx σ H'
  | .ret w => ∀ v H', Same c.H0 H' → Rep K G H' c.A0 w v → D.rt v H'
  | .retn xs => ∀ p vs H', Same c.H0 H' → c.H0 p = none → H' p = some (.lst vs) → Reps K G H' (fun a => c.A0 a ∨ a = p) xs vs → D.rt (.ref p) H'
  | .brk ps => ∀ σ H' ow, RepS K G c H' ow ps σ → Kp K G H A H' (av c ow) → D.bk σ H'
  | .cnt ps => ∀ σ H' ow, RepS K G c H' ow ps σ → Kp K G H A H' (av c ow) → D.ct σ H'
  | .bad => False
  | .exc _ => False
theorem EndsAt.mono {K : PySem.W.Frag} {G : Pg} {c : Fr} {H H1 : Hp} {A A1 : Av} {D : Ends} {r : Rs} (h : EndsAt K G c H A D r) (k : Kp K G H A H1 A1) : EndsAt K G c H1 A1 D r := by
  cases r with
  | nx ps => exact fun σ H' ow R k' => h σ H' ow R (k.trans k')
  | ret w => exact h
  | retn xs => exact h
  | brk ps => exact fun σ H' ow R k' => h σ H' ow R (k.trans k')
  | cnt ps => exact fun σ H' ow R k' => h σ H' ow R (k.trans k')
  | bad => exact h
  | exc c => exact h
def tD (K : PySem.W.Frag) (G : Pg) (d : DS) : TS := fun D σ H => ∃ (c : Fr) (ow : Ows) (ps : PSt), RepS K G c H ow ps σ ∧ EndsAt K G c H (av c ow) D (d ps)
abbrev JS (X : Cx) (G : Pg) (st : Stmt) (d : DS) : Prop := PS X st (tD X.K G d)
abbrev JSs (X : Cx) (G : Pg) (st : List Stmt) (d : DS) : Prop := PSs X st (tD X.K G d)
theorem impS {X : Cx} {st : Stmt} {t t' : TS} (h : PS X st t) (f : ∀ D σ H, t' D σ H → t D σ H) : PS X st t' := fun pins s σ H D I q => h pins s σ H D I (f D σ H q)
theorem impSs {X : Cx} {st : List Stmt} {t t' : TS} (h : PSs X st t) (f : ∀ D σ H, t' D σ H → t D σ H) : PSs X st t' := fun pins s σ H D I q => h pins s σ H D I (f D σ H q)
def Rx.st {α : Type} : Rx α → (α → Rs) → Rs
  | .ok a, f => f a
  | .bad, _ => .bad
  | .exc c, _ => .exc c
@[simp] theorem ok_st {α : Type} (a : α) (f : α → Rs) : (Rx.ok a).st f = f a := rfl
@[simp] theorem bad_st {α : Type} (f : α → Rs) : (Rx.bad : Rx α).st f = .bad := rfl
@[simp] theorem exc_st {α : Type} (c : Nat) (f : α → Rs) : (Rx.exc c : Rx α).st f = .exc c := rfl
theorem ends_st {α : Type} {K : PySem.W.Frag} {G : Pg} {c : Fr} {H : Hp} {A : Av} {D : Ends} {m : Rx α} {f : α → Rs} (h : EndsAt K G c H A D (m.st f)) : ∃ a, m = .ok a ∧ EndsAt K G c H A D (f a) := by
  cases m with
  | ok a => exact ⟨a, rfl, h⟩
  | bad => exact h.elim
  | exc c => exact h.elim
section
variable {X : Cx} {G : Pg} {e a b o tg : Expr} {es : List Expr} {da db : DP} {d : DA} {dm : DM} {ds du : DS} {st : Stmt} {rest : List Stmt} {pos p : Pos} {x m : Str} {k i : Nat}
def sNext : DS := fun ps => .nx ps
def sSeq (a b : DS) : DS := fun ps => match a ps with | .nx ps' => b ps' | r => r
theorem ss_nil : JSs X G [] sNext := impSs pss_nil fun D σ H ⟨c, ow, ps, R, q⟩ => q σ H ow R (Kp.of_same (Same.refl H))
theorem ss_one (h : JS X G st ds) : JSs X G [st] ds := pss_one h
theorem ss_cons (h1 : JS X G st ds) (h2 : JSs X G rest du) : JSs X G (st :: rest) (sSeq ds du) := impSs (pss_cons h1 h2) fun D σ H ⟨c, ow, ps, R, q⟩ => by
  refine ⟨c, ow, ps, R, ?_⟩
  unfold sSeq at q
  cases e : ds ps with
  | nx ps' => rw [e] at q; exact fun σ' H' ow' R' k => ⟨c, ow', ps', R', q.mono k⟩
  | ret w => rw [e] at q; exact q
  | retn xs => rw [e] at q; exact q
  | brk ps' => rw [e] at q; exact q
  | cnt ps' => rw [e] at q; exact q
  | bad => rw [e] at q; exact q
  | exc c => rw [e] at q; exact q
def sBrk : DS := fun ps => .brk ps
def sCnt : DS := fun ps => .cnt ps
def sSet (i : Nat) (d : DP) : DS := fun ps => (d ps).st fun w => .nx (ps.set i (.v w))
theorem s_set (hN : X.N.Nodup) (hi : X.N[i]? = some x) (hx : Loc X.env.scope x) (he : JP X G e da) (hs : swapsWith e (some (.Name x p)) pos.line X.env = pure false := by rfl) (hf : X.fn x = true ∨ X.env.scope.names.lookup x = some .local := by first | exact .inl rfl | exact .inr rfl | assumption) :
    JS X G (.Assign [.Name x p] e pos) (sSet i da) := impS (ps_set hN hi hx he hs hf) fun D σ H ⟨c, ow, ps, R, q⟩ => by
  obtain ⟨w, e1, q⟩ := ends_st q
  exact ⟨c, ow, ps, w, R, e1, fun v H' s r => q _ _ _ ((R.grow s).setV r) ((Kp.of_same s).trans (Kp.weak av_off))⟩
def sSetM (i : Nat) (d : DM) : DS := fun ps => (d ps).st fun w => .nx (w.2.set i (.v w.1))
/-- a new list into a slot, one's own -/
def sOwn (i : Nat) (d : DA) : DS := fun ps => (d ps).st fun ws => if i < ps.length then .nx (ps.set i (.own (.lst ws))) else .bad
theorem s_own (hN : X.N.Nodup) (hi : X.N[i]? = some x) (hx : Loc X.env.scope x) (he : JN X G e d) (hs : swapsWith e (some (.Name x p)) pos.line X.env = pure false := by rfl) (hf : X.fn x = true ∨ X.env.scope.names.lookup x = some .local := by first | exact .inl rfl | exact .inr rfl | assumption) :
    JS X G (.Assign [.Name x p] e pos) (sOwn i d) := impS (ps_set hN hi hx he hs hf) fun D σ H ⟨c, ow, ps, R, q⟩ => by
  obtain ⟨ws, e1, q⟩ := ends_st q
  split at q
  · rename_i hl
    exact ⟨c, ow, ps, ws, R, e1, fun p vs H' s hp hv r => q _ _ _ (R.setO hl s hp ⟨vs, hv, r⟩) (Kp.take hp s av_on)⟩
  · exact q.elim
/-- any target -/
def sAsg (g : DG) (d : DP) : DS := fun ps => (d ps).st fun w => (g w ps).st fun ps' => .nx ps'
theorem s_asg {g : DG} (he : JP X G e da) (hg : JG X G tg g) (hs : swapsWithSole [tg] e pos.line X.env = pure false := by rfl) (hw : swappedStores [tg] e X.env = pure none := by rfl) (h1 : (assignEach [tg] X.env).map (·.2) = [assign tg X.env] := by rfl) : JS X G (.Assign [tg] e pos) (sAsg g da) :=
  impS (ps_asg he hg hs hw h1) fun D σ H ⟨c, ow, ps, R, q⟩ => by
    obtain ⟨w, e1, q⟩ := ends_st q
    obtain ⟨ps', e2, q⟩ := ends_st q
    exact ⟨c, ow, ps, w, R, e1, fun v H' s r => ⟨c, ow, ps, w, ps', R.grow s, r, e2, fun σ' ow' R' wk => q _ _ _ R' ((Kp.of_same s).trans (Kp.weak wk))⟩⟩
def sExpr (d : DM) : DS := fun ps => (d ps).st fun w => .nx w.2
theorem s_expr (he : JM X G e dm) (hs : swapsWith e none pos.line X.env = pure false := by rfl) : JS X G (.Expr e pos) (sExpr dm) := impS (ps_expr he hs) fun D σ H ⟨c, ow, ps, R, q⟩ => by
  obtain ⟨⟨w, ps'⟩, e1, q⟩ := ends_st q
  exact ⟨c, ow, ps, w, ps', R, e1, fun v H' ow' R' k r => q _ _ _ R' k⟩
def sRet (d : DP) : DS := fun ps => (d ps).st fun w => .ret w
theorem s_ret (he : JP X G e da) : JS X G (.Return (some e) pos) (sRet da) := impS (ps_ret he) fun D σ H ⟨c, ow, ps, R, q⟩ => by
  obtain ⟨w, e1, q⟩ := ends_st q
  exact ⟨c, ow, ps, w, R, e1, fun v H' s r => q v H' (R.same.trans s) ((Kp.weak fun a z => Or.inl z).rep r)⟩
def sRetM (d : DM) : DS := fun ps => (d ps).st fun w => .ret w.1
theorem s_retM (he : JM X G e dm) : JS X G (.Return (some e) pos) (sRetM dm) := impS (ps_ret he) fun D σ H ⟨c, ow, ps, R, q⟩ => by
  obtain ⟨⟨w, ps'⟩, e1, q⟩ := ends_st q
  exact ⟨c, ow, ps, w, ps', R, e1, fun v H' ow' R' k r => q v H' R'.same ((Kp.weak fun a z => Or.inl z).rep r)⟩
/-- a new list is handed out; a list of one's own is handed out -/
def sRetW (d : DA) : DS := fun ps => (d ps).st fun xs => .retn xs
def sRetO (i : Nat) : DS := fun ps => match ps[i]? with | some (.own (.lst xs)) => .retn xs | _ => .bad
theorem s_retO (i : Nat) (hN : X.N[i]? = some x := by rfl) (hv : Vis X.env.scope x := by first | exact Or.inl rfl | exact Or.inr (Or.inl rfl) | exact Or.inr (Or.inr rfl)) (hd : (x == ("__debug__" : Str)) = false := by decide)
    (hcd : (x == ("__classdict__" : Str)) = false := by decide) : JS X G (.Return (some (.Name x p)) pos) (sRetO i) := impS (ps_ret (pe_var hN hv hd hcd)) fun D σ H ⟨c, ow, ps, R, q⟩ => by
  unfold sRetO at q
  split at q
  · rename_i xs hx
    obtain ⟨p, e1, e2, vs, hH, rs⟩ := R.getO hx
    refine ⟨_, e2, q p vs H R.same (R.fresh i p e1) hH ((Kp.weak fun a z => ?_).reps rs)⟩
    rcases z with z | z
    · exact .inl z
    · subst z; exact .inr ⟨i, e1⟩
  · exact q.elim
def sRetN : DS := fun _ => .ret .non
def sIf (t : DT) (a b : DS) : DS := fun ps => (t ps).st fun x => if x = true then a ps else b ps
theorem s_if {c : Expr} {a b : List Stmt} {dt : DT} (hc : JT X G c dt) (ha : JSs X G a ds) (hb : JSs X G b du) : JS X G (.If c a b pos) (sIf dt ds du) := impS (ps_if hc ha hb) fun D σ H ⟨c, ow, ps, R, q⟩ => by
  obtain ⟨x, e1, q⟩ := ends_st q
  refine ⟨c, ow, ps, x, R, e1, fun H' s => ?_⟩
  split at q
  · rename_i hx; subst hx; exact iteT ⟨c, ow, ps, R.grow s, q.mono (Kp.of_same s)⟩
  · rename_i hx
    have : x = false := by simpa using hx
    subst this
    exact iteF ⟨c, ow, ps, R.grow s, q.mono (Kp.of_same s)⟩
/-! ### for -/
def forD (g : DG) (body : DS) : List PV → PSt → Rs
  | [], ps => .nx ps
  | w :: ws, ps => (g w ps).st fun ps1 => match body ps1 with
    | .nx ps2 => forD g body ws ps2
    | .cnt ps2 => forD g body ws ps2
    | .brk ps2 => .nx ps2
    | r => r
def sFor (di : DA) (g : DG) (body : DS) : DS := fun ps => (di ps).st fun ws => forD g body ws ps
theorem s_for {iter : Expr} {body : List Stmt} {di : DA} {g : DG} (hp : PassesOwn (model X.prog X.w) X.A X.env X.xe) (hc : X.calm = true) (hi : JI X G tg iter di) (hg : JG X G tg g) (hb : JSs X G body ds)
    (hs : ∀ x, foldedSetIterable iter X.env x = pure x := by intro _; rfl) : JS X G (.For tg iter body [] pos) (sFor di g ds) := impS (ps_for hp hc hi hg hb hs) fun D σ H ⟨c, ow, ps, R, q⟩ => by
  obtain ⟨ws, e1, q⟩ := ends_st q
  refine ⟨c, ow, ps, ws, R, e1, fun J H1 vs s1 rep wk => ?_⟩
  refine ⟨fun i m σ' H' => ∃ ow' ps', m = ws.length - i ∧ i ≤ ws.length ∧ RepS X.K G c H' ow' ps' σ' ∧ Kp X.K G H1 (av c ow) H' (av c ow') ∧ EndsAt X.K G c H' (av c ow') D (forD g ds (ws.drop i) ps'),
    ⟨_, ow, ps, rfl, Nat.zero_le _, R.grow s1, Kp.of_same (Same.refl _), q.mono (Kp.of_same s1)⟩, ?_⟩
  rintro i m σ' H' ⟨ow', ps', rfl, hi', R', k', q'⟩
  obtain ⟨wg, wst⟩ := wk H' _ k'
  rcases Nat.lt_or_ge i ws.length with hlt | hge
  · right
    rw [List.drop_eq_getElem_cons hlt] at q'
    obtain ⟨v, hv, rv⟩ := (k'.reps rep).get (List.getElem?_eq_getElem hlt)
    obtain ⟨go, yl⟩ := wg i v hv
    refine ⟨go, _, fun _ _ h => h, fun y H2 hyl => ?_⟩
    obtain ⟨rfl, rfl⟩ := yl y H2 hyl
    obtain ⟨ps1, c1, q'⟩ := ends_st q'
    refine ⟨c, ow', ps', ws[i], ps1, R', rv, c1, fun σ3 ow3 R3 wk3 => ?_⟩
    have k3 : Kp X.K G H1 (av c ow) H2 (av c ow3) := k'.trans (Kp.weak wk3)
    have q3 := q'.mono (Kp.weak (K := X.K) (G := G) (H := H2) wk3)
    refine ⟨c, ow3, ps1, R3, ?_⟩
    cases er : ds ps1 with
    | nx ps2 =>
      rw [er] at q3
      exact fun σ4 H4 ow4 R4 k4 => ⟨ws.length - (i + 1), by omega, ow4, ps2, rfl, hlt, R4, k3.trans k4, EndsAt.mono q3 k4⟩
    | cnt ps2 =>
      rw [er] at q3
      exact fun σ4 H4 ow4 R4 k4 => ⟨ws.length - (i + 1), by omega, ow4, ps2, rfl, hlt, R4, k3.trans k4, EndsAt.mono q3 k4⟩
    | brk ps2 => rw [er] at q3; exact q3
    | ret w => rw [er] at q3; exact q3
    | retn xs => rw [er] at q3; exact q3
    | bad => rw [er] at q3; exact q3
    | exc c => rw [er] at q3; exact q3
  · left
    have : i = ws.length := Nat.le_antisymm hi' hge
    subst this
    rw [List.drop_length] at q'
    exact ⟨by rw [rep.len]; exact wst, q' σ' H' ow' R' (Kp.of_same (Same.refl _))⟩
end
/-! ### a def -/
def inP (ms : List Bool) (n : Nat) (ws : List PV) : PSt := (List.zipWith (fun m w => if m = true then Sl.bor w else Sl.v w) ms ws) ++ List.replicate (n - ws.length) .no
def runD (ms : List Bool) (n : Nat) (d : DS) (ws : List PV) : Rx PV := if ws.length = ms.length then (match d (inP ms n ws) with | .ret w => .ok w | .retn xs => .ok (.lst xs) | .nx _ => .ok .non | .exc c => .exc c | _ => .bad) else .bad
theorem inF {K : PySem.W.Frag} {G : Pg} {H : Hp} {A : Av} : ∀ {ms : List Bool} {ws : List PV} {vs : List V} {i : Nat} {s : Sl} {o : Option V}, RepM K G H A ms ws vs → (List.zipWith (fun m w => if m = true then Sl.bor w else Sl.v w) ms ws)[i]? = some s → (vs.map some)[i]? = some o → SlF K G (fun p => H p ≠ none) H A s o
  | [], ws, vs, i, s, o, h, e1, e2 => by obtain ⟨rfl, rfl⟩ := h; simp at e1
  | m :: ms, ws, vs, 0, s, o, h, e1, e2 => by
    obtain ⟨w, wr, v, vr, rfl, rfl, r, rr⟩ := h
    simp at e1 e2
    subst e1; subst e2
    cases m with
    | true =>
      simp only [if_pos]
      rw [if_pos rfl] at r
      refine ⟨v, rfl, ?_⟩
      rcases r with r | ⟨x, p, e1, e2, r⟩
      · exact .inl r
      · obtain ⟨o', eo, _⟩ := r.at
        exact .inr ⟨x, p, e1, e2, r, by show H p ≠ none; rw [eo]; simp⟩
    | false =>
      rw [if_neg Bool.false_ne_true] at r
      exact ⟨v, rfl, r⟩
  | m :: ms, ws, vs, i + 1, s, o, h, e1, e2 => by
    obtain ⟨w, wr, v, vr, rfl, rfl, r, rr⟩ := h
    exact inF (i := i) rr (by simpa using e1) (by simpa using e2)
theorem in_rep {K : PySem.W.Frag} {G : Pg} {H : Hp} {A : Av} {ms : List Bool} {ws : List PV} {vs : List V} {N : List Str} (r : RepM K G H A ms ws vs) : RepF K G (fun p => H p ≠ none) H A (inP ms N.length ws) (L2.start N vs) := by
  have l1 := r.len.1
  have l2 := r.len.2
  refine ⟨by simp [inP, L2.start, l1, l2], fun i s o e1 e2 => ?_⟩
  unfold inP at e1
  unfold L2.start at e2
  rcases Nat.lt_or_ge i ms.length with h | h
  · rw [List.getElem?_append_left (by simp [l1]; omega)] at e1
    rw [List.getElem?_append_left (by simp [l2]; omega)] at e2
    exact inF r e1 e2
  · rw [List.getElem?_append_right (by simp [l1]; omega), List.getElem?_replicate] at e1
    split at e1
    · cases e1; exact True.intro
    · cases e1
/-- a def whose every way out hands out a new list of its own -/
def runW (ms : List Bool) (n : Nat) (d : DS) (ws : List PV) : Rx PV := if ws.length = ms.length then (match d (inP ms n ws) with | .retn xs => .ok (.lst xs) | .exc c => .exc c | _ => .bad) else .bad
def spN (K : PySem.W.Frag) (G : Pg) (ms : List Bool) (g : List PV → Rx PV) : Sp := fun vs H Q _ => ∃ A ws xs, Used H A ∧ RepM K G H A ms ws vs ∧ g ws = .ok (.lst xs) ∧ ∀ p us H', Same H H' → H p = none → H' p = some (.lst us) → Reps K G H' (fun a => A a ∨ a = p) xs us → Q (.ref p) H'
theorem fn_okN {P : Program} {w : World} {K : PySem.W.Frag} {mg : Str → Option Value} {base : Heap} {G : Pg} {x qual : Str} {st : Stmt} {f : Addr} {fd : FuncData} {N ps : List Str} {k : Nat} {ms : List Bool} {d : DS} (F : Fun K x qual st f fd) (S : FnScope N ps (defScope st)) (hm : ms.length = ps.length)
    (hb : ∀ (cdv : Value) (A : Around) (outer : List Env) (s : Shared) (H : Hp) (E : XK), Room k (A.deeper (envOfC qual (defScope st) s.heap.objs.size f cdv)) → JSs (cxOf CX0 P w K mg base N qual (defScope st) f cdv A outer s H E).nox G (defBody st) d) :
    FnOk P w K mg base CX0 (k + 1) f fd ps (spN K G ms (runW ms N.length d)) := by
  refine F.ok S (fun vs H Q E h => ?_) (fun cdv A outer s H vs Q E hr h => ?_)
  · obtain ⟨A, ws, w, u, r, _⟩ := h
    rw [r.len.2, hm]
  · obtain ⟨A', ws, xs, u, r, e, q⟩ := h
    refine ⟨_, hb cdv A outer s H E hr, ?_⟩
    have F0 := in_rep (N := N) r
    have S0 := F0.toS u fun a z => z
    refine ⟨_, ow0, inP ms N.length ws, S0, ?_⟩
    unfold runW at e
    rw [if_pos r.len.1] at e
    cases ed : d (inP ms N.length ws) with
    | retn ys => rw [ed] at e; cases e; exact fun p vs H' s hp hv r => q p vs H' s hp hv r
    | nx ps' => rw [ed] at e; cases e
    | ret w2 => rw [ed] at e; cases e
    | brk _ => rw [ed] at e; cases e
    | cnt _ => rw [ed] at e; cases e
    | bad => rw [ed] at e; cases e
    | exc _ => rw [ed] at e; cases e
theorem runW_lst {ms : List Bool} {n : Nat} {d : DS} {ws : List PV} {w : PV} (h : runW ms n d ws = .ok w) : ∃ xs, w = .lst xs := by
  unfold runW at h
  split at h
  · split at h
    · cases h; exact ⟨_, rfl⟩
    · cases h
    · cases h
  · cases h
theorem spN_G {K : PySem.W.Frag} {G : Pg} {ms : List Bool} {g : List PV → Rx PV} (hg : ∀ ws w, g ws = .ok w → ∃ xs, w = .lst xs) : ∀ vs H Q E, spG K G ms g vs H Q E → spN K G ms g vs H Q E := by
  rintro vs H Q E ⟨A, ws, w, u, r, e, q⟩
  obtain ⟨xs, rfl⟩ := hg ws w e
  exact ⟨A, ws, xs, u, r, e, fun p us H' s hp hv rs => q _ H' s ⟨p, us, rfl, .inl ⟨hv, fun z => u p z hp⟩, (Kp.weak fun a z => Or.inl z).reps rs⟩⟩
/-- THE RULE for a def: its body's mirror -/
theorem fn_ok {P : Program} {w : World} {K : PySem.W.Frag} {mg : Str → Option Value} {base : Heap} {G : Pg} {x qual : Str} {st : Stmt} {f : Addr} {fd : FuncData} {N ps : List Str} {k : Nat} {ms : List Bool} {d : DS} (F : Fun K x qual st f fd) (S : FnScope N ps (defScope st)) (hm : ms.length = ps.length)
    (hb : ∀ (cdv : Value) (A : Around) (outer : List Env) (s : Shared) (H : Hp) (E : XK), Room k (A.deeper (envOfC qual (defScope st) s.heap.objs.size f cdv)) → JSs (cxOf CX0 P w K mg base N qual (defScope st) f cdv A outer s H E).nox G (defBody st) d) :
    FnOk P w K mg base CX0 (k + 1) f fd ps (spG K G ms (runD ms N.length d)) := by
  refine F.ok S (fun vs H Q E h => ?_) (fun cdv A outer s H vs Q E hr h => ?_)
  · obtain ⟨A, ws, w, u, r, _⟩ := h
    rw [r.len.2, hm]
  · obtain ⟨A', ws, w', u, r, e, q⟩ := h
    refine ⟨_, hb cdv A outer s H E hr, ?_⟩
    have F0 := in_rep (N := N) r
    have S0 := F0.toS u fun a z => z
    refine ⟨_, ow0, inP ms N.length ws, S0, ?_⟩
    unfold runD at e
    rw [if_pos r.len.1] at e
    cases ed : d (inP ms N.length ws) with
    | nx ps' => rw [ed] at e; cases e; exact fun σ' H' ow' R' _ => q .non H' R'.same rfl
    | ret w2 => rw [ed] at e; cases e; exact fun v H' s r => q v H' s r
    | retn xs => rw [ed] at e; cases e; exact fun p vs H' s hp hv r => q (.ref p) H' s ⟨p, vs, rfl, .inl ⟨hv, fun z => u p z hp⟩, (Kp.weak fun a z => Or.inl z).reps r⟩
    | brk _ => rw [ed] at e; cases e
    | cnt _ => rw [ed] at e; cases e
    | bad => rw [ed] at e; cases e
    | exc _ => rw [ed] at e; cases e
end DN
end
section
set_option Elab.async false
set_option linter.all false
set_option maxRecDepth 100000
set_option maxHeartbeats 4000000
namespace DN
open PySem PySem.Spec PyProof.Rows L2
def isF : PV → Bool
  | .non => true | .bl _ => true | .int _ => true | .str _ => true | _ => false
mutual
def peq : PV → PV → Option Bool
  | .tup xs, .tup ys => peqs xs ys
  | .lst xs, .lst ys => if xs.length = ys.length then peqs xs ys else some false
  | .tup _, .lst _ => some false
  | .lst _, .tup _ => some false
  | .tup _, .non => some false | .tup _, .bl _ => some false | .tup _, .int _ => some false | .tup _, .str _ => some false
  | .lst _, .non => some false | .lst _, .bl _ => some false | .lst _, .int _ => some false | .lst _, .str _ => some false
  | .non, .tup _ => some false | .bl _, .tup _ => some false | .int _, .tup _ => some false | .str _, .tup _ => some false
  | .non, .lst _ => some false | .bl _, .lst _ => some false | .int _, .lst _ => some false | .str _, .lst _ => some false
  | .non, .non => some true | .bl a, .bl b => some (a == b) | .int a, .int b => some (a == b) | .str a, .str b => some (a == b)
  | .bl a, .int b => some ((if a then 1 else 0) == b) | .int a, .bl b => some (a == (if b then 1 else 0))
  | .non, .bl _ => some false | .non, .int _ => some false | .non, .str _ => some false
  | .bl _, .non => some false | .int _, .non => some false | .str _, .non => some false
  | .bl _, .str _ => some false | .str _, .bl _ => some false | .int _, .str _ => some false | .str _, .int _ => some false
  | _, _ => none
def peqs : List PV → List PV → Option Bool
  | [], [] => some true
  | x :: xs, y :: ys => match peq x y, peqs xs ys with | some a, some b => some (a && b) | _, _ => none
  | [], _ :: _ => some false
  | _ :: _, [] => some false
end
mutual
def PV.depth : PV → Nat
  | .tup xs => pdepths xs + 1
  | .lst xs => pdepths xs + 1
  | _ => 0
def pdepths : List PV → Nat
  | [] => 0
  | x :: xs => max x.depth (pdepths xs)
end
def eAt : List PV → List PV → Nat → Bool
  | x :: _, y :: _, 0 => (peq x y).getD false
  | _ :: xs, _ :: ys, j + 1 => eAt xs ys j
  | _, _, _ => false
theorem peqs_cons {x y : PV} {xs ys : List PV} {b : Bool} (h : peqs (x :: xs) (y :: ys) = some b) : ∃ a c, peq x y = some a ∧ peqs xs ys = some c ∧ b = (a && c) := by
  rw [peqs] at h
  cases e1 : peq x y with
  | none => rw [e1] at h; simp at h
  | some a =>
    cases e2 : peqs xs ys with
    | none => rw [e1, e2] at h; simp at h
    | some c => rw [e1, e2] at h; simp at h; exact ⟨a, c, rfl, rfl, h.symm⟩
theorem peqs_all : ∀ {xs ys : List PV} {b : Bool}, peqs xs ys = some b → ((List.range (min xs.length ys.length)).all (eAt xs ys) && xs.length == ys.length) = b
  | [], [], b, h => by rw [peqs] at h; cases h; rfl
  | [], y :: ys, b, h => by rw [peqs] at h; cases h; simp
  | x :: xs, [], b, h => by rw [peqs] at h; cases h; simp
  | x :: xs, y :: ys, b, h => by
    obtain ⟨a, c, e1, e2, rfl⟩ := peqs_cons h
    have ih := peqs_all e2
    rw [← ih, List.length_cons, List.length_cons, Nat.add_min_add_right, List.range_succ_eq_map, List.all_cons, List.all_map]
    have q1 : ((eAt (x :: xs) (y :: ys)) ∘ Nat.succ) = eAt xs ys := rfl
    have q2 : eAt (x :: xs) (y :: ys) 0 = a := by show (peq x y).getD false = a; rw [e1]; rfl
    have q3 : (xs.length + 1 == ys.length + 1) = (xs.length == ys.length) := by simp
    rw [q1, q2, q3, Bool.and_assoc]
section
variable {X : Cx} {G : Pg} {pins : List (Addr × Obj)} {σ : L2.St} {H : Hp} {s : Shared} {A0 : Av}
theorem list_inj' (I : Inv X pins σ H s) {a : Addr} {xs ys : List V} (h : SqL X.K H a xs) (h' : SqL X.K H a ys) : xs = ys := by
  obtain ⟨i1, r1, p1, _⟩ := I.list h
  obtain ⟨i2, r2, p2, _⟩ := I.list h'
  obtain ⟨o, n, e, c, d, q⟩ := p1
  obtain ⟨o', n', e', c', d', q'⟩ := p2
  rw [e] at e'; cases e'
  rw [q] at q'
  have : i1 = i2 := by
    have := (Data.seq.inj q').1
    simpa using this
  subst this
  exact r1.inj r2
mutual
theorem rep_inj (I : Inv X pins σ H s) : ∀ {x y : PV} {v : V} {b : Bool}, Rep X.K G H A0 x v → Rep X.K G H A0 y v → peq x y = some b → b = true
  | .tup xs, y, v, b, h, h', e => by
    obtain ⟨a, vs, rfl, sq, rs⟩ := h
    cases y with
    | tup ys =>
      obtain ⟨a', vs', e2, sq', rs'⟩ := h'
      cases e2
      have := I.tuple_inj sq sq'
      subst this
      rw [peq] at e
      exact reps_inj I rs rs' e
    | lst ys =>
      obtain ⟨a', vs', e2, sq', rs'⟩ := h'
      cases e2
      obtain ⟨_, _, ⟨o, h1, h2, _⟩, _⟩ := I.tuple sq
      obtain ⟨_, _, ⟨o', _, h1', h2', _⟩, _⟩ := I.list sq'.sq
      rw [h1] at h1'; cases h1'
      rw [h2] at h2'; exact absurd (Value.type.inj h2') (by decide)
    | non => cases h'
    | bl _ => cases h'
    | int _ => cases h'
    | str _ => cases h'
    | obj _ _ => simp [peq] at e
    | dic _ _ => simp [peq] at e
  | .lst xs, y, v, b, h, h', e => by
    obtain ⟨a, vs, rfl, sq, rs⟩ := h
    cases y with
    | lst ys =>
      obtain ⟨a', vs', e2, sq', rs'⟩ := h'
      cases e2
      have := list_inj' I sq.sq sq'.sq
      subst this
      rw [peq, if_pos (by rw [rs.len, rs'.len])] at e
      exact reps_inj I rs rs' e
    | tup ys =>
      obtain ⟨a', vs', e2, sq', rs'⟩ := h'
      cases e2
      obtain ⟨_, _, ⟨o, h1, h2, _⟩, _⟩ := I.tuple sq'
      obtain ⟨_, _, ⟨o', _, h1', h2', _⟩, _⟩ := I.list sq.sq
      rw [h1] at h1'; cases h1'
      rw [h2] at h2'; exact absurd (Value.type.inj h2') (by decide)
    | non => cases h'
    | bl _ => cases h'
    | int _ => cases h'
    | str _ => cases h'
    | obj _ _ => simp [peq] at e
    | dic _ _ => simp [peq] at e
  | .non, y, v, b, h, h', e => by
    cases h
    cases y with
    | non => cases h' <;> (rw [peq] at e; cases e; simp)
    | bl _ => cases h' <;> (rw [peq] at e; cases e; simp)
    | int _ => cases h' <;> (rw [peq] at e; cases e; simp)
    | str _ => cases h' <;> (rw [peq] at e; cases e; simp)
    | tup _ => obtain ⟨_, _, z, _⟩ := h'; cases z
    | lst _ => obtain ⟨_, _, z, _⟩ := h'; cases z
    | dic _ _ => obtain ⟨_, _, z, _⟩ := h'; cases z
    | obj _ _ => obtain ⟨_, _, _, z, _⟩ := h'; cases z
  | .bl k, y, v, b, h, h', e => by
    cases h
    cases y with
    | non => cases h' <;> (rw [peq] at e; cases e; simp)
    | bl _ => cases h' <;> (rw [peq] at e; cases e; simp)
    | int _ => cases h' <;> (rw [peq] at e; cases e; simp)
    | str _ => cases h' <;> (rw [peq] at e; cases e; simp)
    | tup _ => obtain ⟨_, _, z, _⟩ := h'; cases z
    | lst _ => obtain ⟨_, _, z, _⟩ := h'; cases z
    | dic _ _ => obtain ⟨_, _, z, _⟩ := h'; cases z
    | obj _ _ => obtain ⟨_, _, _, z, _⟩ := h'; cases z
  | .int k, y, v, b, h, h', e => by
    cases h
    cases y with
    | non => cases h' <;> (rw [peq] at e; cases e; simp)
    | bl _ => cases h' <;> (rw [peq] at e; cases e; simp)
    | int _ => cases h' <;> (rw [peq] at e; cases e; simp)
    | str _ => cases h' <;> (rw [peq] at e; cases e; simp)
    | tup _ => obtain ⟨_, _, z, _⟩ := h'; cases z
    | lst _ => obtain ⟨_, _, z, _⟩ := h'; cases z
    | dic _ _ => obtain ⟨_, _, z, _⟩ := h'; cases z
    | obj _ _ => obtain ⟨_, _, _, z, _⟩ := h'; cases z
  | .str k, y, v, b, h, h', e => by
    cases h
    cases y with
    | non => cases h' <;> (rw [peq] at e; cases e; simp)
    | bl _ => cases h' <;> (rw [peq] at e; cases e; simp)
    | int _ => cases h' <;> (rw [peq] at e; cases e; simp)
    | str _ => cases h' <;> (rw [peq] at e; cases e; simp)
    | tup _ => obtain ⟨_, _, z, _⟩ := h'; cases z
    | lst _ => obtain ⟨_, _, z, _⟩ := h'; cases z
    | dic _ _ => obtain ⟨_, _, z, _⟩ := h'; cases z
    | obj _ _ => obtain ⟨_, _, _, z, _⟩ := h'; cases z
  | .obj k xs, y, v, b, h, h', e => by
    cases y <;> simp [peq] at e
  | .dic k xs, y, v, b, h, h', e => by
    cases y <;> simp [peq] at e
theorem reps_inj (I : Inv X pins σ H s) : ∀ {xs ys : List PV} {vs : List V} {b : Bool}, Reps X.K G H A0 xs vs → Reps X.K G H A0 ys vs → peqs xs ys = some b → b = true
  | [], [], vs, b, h, h', e => by rw [peqs] at e; cases e; rfl
  | [], y :: ys, vs, b, h, h', e => by
    obtain ⟨v, r, e2, _⟩ := h'
    have h : vs = [] := h
    rw [h] at e2; cases e2
  | x :: xs, [], vs, b, h, h', e => by
    obtain ⟨v, r, e2, _⟩ := h
    have h' : vs = [] := h'
    rw [h'] at e2; cases e2
  | x :: xs, y :: ys, vs, b, h, h', e => by
    obtain ⟨v, r, rfl, h1, h2⟩ := h
    obtain ⟨v', r', e2, h1', h2'⟩ := h'
    cases e2
    obtain ⟨a, c, e1, e2, rfl⟩ := peqs_cons e
    rw [rep_inj I h1 h1' e1, reps_inj I h2 h2' e2]; rfl
end
mutual
theorem eqp (I : Inv X pins σ H s) : ∀ {x y : PV} {v v' : V} {u u' : Value} {A : Around} {b : Bool}, A.units + x.depth < cLine → Rep X.K G H A0 x v → Rep X.K G H A0 y v' → RelV v u → RelV v' u' → peq x y = some b → SeqAt.EqAt A s u u' b
  | .tup xs, y, v, v', u, u', A, b, hu, h, h', r, r', e => by
    have hu0 : A.units < cLine := Nat.lt_of_le_of_lt (Nat.le_add_right _ _) hu
    have h0 := h
    obtain ⟨a, vs, rfl, sq, rs⟩ := h
    obtain rfl : u = Value.ref a := r
    obtain ⟨its, r1, p1, _⟩ := I.tuple sq
    cases y with
    | tup ys =>
      have h0' := h'
      obtain ⟨a', vs', rfl, sq', rs'⟩ := h'
      obtain rfl : u' = Value.ref a' := r'
      by_cases ea : a = a'
      · subst ea
        rw [rep_inj I h0 h0' e]
        exact SeqAt.EqAt.same _
      · obtain ⟨its', r2, p2, _⟩ := I.tuple sq'
        have hd : (PV.tup xs).depth = pdepths xs + 1 := by rw [PV.depth]
        rw [peq] at e
        refine SeqAt.EqAt.of_refs ea ?_
        have q := SeqAt.RcAt.tuples (A := A) (e := eAt xs ys) p1 p2 (by omega) fun j h1 h2 => by
          have h1' : j < its.length := by simpa using h1
          have h2' : j < its'.length := by simpa using h2
          have := eqps I (A := A.in1) (j := j) (by show A.units + 1 + pdepths xs < cLine; omega) rs rs' r1 r2 e (List.getElem?_eq_getElem h1') (List.getElem?_eq_getElem h2')
          simpa using this
        have e4 : its.toArray.size = xs.length := by rw [List.size_toArray, ← r1.length, rs.len]
        have e5 : its'.toArray.size = ys.length := by rw [List.size_toArray, ← r2.length, rs'.len]
        rw [e4, e5, peqs_all e] at q
        exact q
    | lst ys =>
      obtain ⟨a', vs', rfl, sq', rs'⟩ := h'
      obtain rfl : u' = Value.ref a' := r'
      obtain ⟨its', r2, p2, _⟩ := I.list sq'.sq
      rw [peq] at e; cases e
      exact SeqAt.EqAt.tuple_list p1 p2.isList hu0
    | non => cases h'; cases r'; rw [peq] at e; cases e; exact SeqAt.EqAt.tuple_none p1 hu0
    | bl k => cases h'; cases r'; rw [peq] at e; cases e; exact SeqAt.EqAt.tuple_bool k p1 hu0
    | int k => cases h'; obtain ⟨t, rfl⟩ := r'; rw [peq] at e; cases e; exact SeqAt.EqAt.tuple_int k t p1 hu0
    | str k => cases h'; obtain ⟨t, rfl⟩ := r'; rw [peq] at e; cases e; exact SeqAt.EqAt.tuple_str k t p1 hu0
    | obj _ _ => simp [peq] at e
    | dic _ _ => simp [peq] at e
  | .lst xs, y, v, v', u, u', A, b, hu, h, h', r, r', e => by
    have hu0 : A.units < cLine := Nat.lt_of_le_of_lt (Nat.le_add_right _ _) hu
    have h0 := h
    obtain ⟨a, vs, rfl, sq, rs⟩ := h
    obtain rfl : u = Value.ref a := r
    obtain ⟨its, r1, p1, _⟩ := I.list sq.sq
    cases y with
    | lst ys =>
      have h0' := h'
      obtain ⟨a', vs', rfl, sq', rs'⟩ := h'
      obtain rfl : u' = Value.ref a' := r'
      by_cases ea : a = a'
      · subst ea
        rw [rep_inj I h0 h0' e]
        exact SeqAt.EqAt.same _
      · obtain ⟨its', r2, p2, _⟩ := I.list sq'.sq
        have hd : (PV.lst xs).depth = pdepths xs + 1 := by rw [PV.depth]
        have e4 : its.toArray.size = xs.length := by rw [List.size_toArray, ← r1.length, rs.len]
        have e5 : its'.toArray.size = ys.length := by rw [List.size_toArray, ← r2.length, rs'.len]
        refine SeqAt.EqAt.of_refs ea ?_
        rw [peq] at e
        by_cases hl : xs.length = ys.length
        · rw [if_pos hl] at e
          have q := SeqAt.RcAt.lists (A := A) (e := eAt xs ys) p1.isList p2.isList (by rw [e4, e5, hl]) (by omega) fun j h1 h2 => by
            have h1' : j < its.length := by simpa using h1
            have h2' : j < its'.length := by simpa using h2
            have := eqps I (A := A.in1) (j := j) (by show A.units + 1 + pdepths xs < cLine; omega) rs rs' r1 r2 e (List.getElem?_eq_getElem h1') (List.getElem?_eq_getElem h2')
            simpa using this
          have q2 := peqs_all e
          rw [hl, Nat.min_self, beq_self_eq_true, Bool.and_true] at q2
          rw [e4, hl, q2] at q
          exact q
        · rw [if_neg hl] at e
          cases e
          exact SeqAt.RcAt.lists_lengths p1.isList p2.isList (by rw [e4, e5]; simpa using hl) hu0
    | tup ys =>
      obtain ⟨a', vs', rfl, sq', rs'⟩ := h'
      obtain rfl : u' = Value.ref a' := r'
      obtain ⟨its', r2, p2, _⟩ := I.tuple sq'
      rw [peq] at e; cases e
      exact SeqAt.EqAt.list_tuple p1.isList p2 hu0
    | non => cases h'; cases r'; rw [peq] at e; cases e; exact SeqAt.EqAt.list_none p1.isList hu0
    | bl k => cases h'; cases r'; rw [peq] at e; cases e; exact SeqAt.EqAt.list_bool k p1.isList hu0
    | int k => cases h'; obtain ⟨t, rfl⟩ := r'; rw [peq] at e; cases e; exact SeqAt.EqAt.list_int k t p1.isList hu0
    | str k => cases h'; obtain ⟨t, rfl⟩ := r'; rw [peq] at e; cases e; exact SeqAt.EqAt.list_str k t p1.isList hu0
    | obj _ _ => simp [peq] at e
    | dic _ _ => simp [peq] at e
  | .non, y, v, v', u, u', A, b, hu, h, h', r, r', e => by
    have hu0 : A.units < cLine := Nat.lt_of_le_of_lt (Nat.le_add_right _ _) hu
    cases h
    cases r
    cases y with
    | non => cases h'; cases r'; rw [peq] at e; cases e; exact SeqAt.EqAt.same _
    | bl k => cases h'; cases r'; rw [peq] at e; cases e; exact SeqAt.EqAt.none_bool k
    | int k => cases h'; obtain ⟨t, rfl⟩ := r'; rw [peq] at e; cases e; exact SeqAt.EqAt.none_int k t
    | str k => cases h'; obtain ⟨t, rfl⟩ := r'; rw [peq] at e; cases e; exact SeqAt.EqAt.none_str k t
    | tup ys =>
      obtain ⟨a', vs', rfl, sq', rs'⟩ := h'
      obtain rfl : u' = Value.ref a' := r'
      obtain ⟨its', r2, p2, _⟩ := I.tuple sq'
      rw [peq] at e; cases e
      exact SeqAt.EqAt.none_tuple p2 hu0
    | lst ys =>
      obtain ⟨a', vs', rfl, sq', rs'⟩ := h'
      obtain rfl : u' = Value.ref a' := r'
      obtain ⟨its', r2, p2, _⟩ := I.list sq'.sq
      rw [peq] at e; cases e
      exact SeqAt.EqAt.none_list p2.isList hu0
    | obj _ _ => simp [peq] at e
    | dic _ _ => simp [peq] at e
  | .bl k0, y, v, v', u, u', A, b, hu, h, h', r, r', e => by
    have hu0 : A.units < cLine := Nat.lt_of_le_of_lt (Nat.le_add_right _ _) hu
    cases h
    cases r
    cases y with
    | non => cases h'; cases r'; rw [peq] at e; cases e; exact SeqAt.EqAt.bool_none k0
    | bl k => cases h'; cases r'; rw [peq] at e; cases e; exact SeqAt.EqAt.bool_bool k0 k
    | int k => cases h'; obtain ⟨t, rfl⟩ := r'; rw [peq] at e; cases e; exact SeqAt.EqAt.bool_int k0 k t
    | str k => cases h'; obtain ⟨t, rfl⟩ := r'; rw [peq] at e; cases e; exact SeqAt.EqAt.bool_str k0 k t
    | tup ys =>
      obtain ⟨a', vs', rfl, sq', rs'⟩ := h'
      obtain rfl : u' = Value.ref a' := r'
      obtain ⟨its', r2, p2, _⟩ := I.tuple sq'
      rw [peq] at e; cases e
      exact SeqAt.EqAt.bool_tuple k0 p2 hu0
    | lst ys =>
      obtain ⟨a', vs', rfl, sq', rs'⟩ := h'
      obtain rfl : u' = Value.ref a' := r'
      obtain ⟨its', r2, p2, _⟩ := I.list sq'.sq
      rw [peq] at e; cases e
      exact SeqAt.EqAt.bool_list k0 p2.isList hu0
    | obj _ _ => simp [peq] at e
    | dic _ _ => simp [peq] at e
  | .int k0, y, v, v', u, u', A, b, hu, h, h', r, r', e => by
    have hu0 : A.units < cLine := Nat.lt_of_le_of_lt (Nat.le_add_right _ _) hu
    cases h
    obtain ⟨t0, rfl⟩ := r
    cases y with
    | non => cases h'; cases r'; rw [peq] at e; cases e; exact SeqAt.EqAt.int_none k0 t0
    | bl k => cases h'; cases r'; rw [peq] at e; cases e; exact SeqAt.EqAt.int_bool k0 t0 k
    | int k => cases h'; obtain ⟨t, rfl⟩ := r'; rw [peq] at e; cases e; exact SeqAt.EqAt.int_int k0 t0 k t
    | str k => cases h'; obtain ⟨t, rfl⟩ := r'; rw [peq] at e; cases e; exact SeqAt.EqAt.int_str k0 t0 k t
    | tup ys =>
      obtain ⟨a', vs', rfl, sq', rs'⟩ := h'
      obtain rfl : u' = Value.ref a' := r'
      obtain ⟨its', r2, p2, _⟩ := I.tuple sq'
      rw [peq] at e; cases e
      exact SeqAt.EqAt.int_tuple k0 t0 p2 hu0
    | lst ys =>
      obtain ⟨a', vs', rfl, sq', rs'⟩ := h'
      obtain rfl : u' = Value.ref a' := r'
      obtain ⟨its', r2, p2, _⟩ := I.list sq'.sq
      rw [peq] at e; cases e
      exact SeqAt.EqAt.int_list k0 t0 p2.isList hu0
    | obj _ _ => simp [peq] at e
    | dic _ _ => simp [peq] at e
  | .str k0, y, v, v', u, u', A, b, hu, h, h', r, r', e => by
    have hu0 : A.units < cLine := Nat.lt_of_le_of_lt (Nat.le_add_right _ _) hu
    cases h
    obtain ⟨t0, rfl⟩ := r
    cases y with
    | non => cases h'; cases r'; rw [peq] at e; cases e; exact SeqAt.EqAt.str_none k0 t0
    | bl k => cases h'; cases r'; rw [peq] at e; cases e; exact SeqAt.EqAt.str_bool k0 t0 k
    | int k => cases h'; obtain ⟨t, rfl⟩ := r'; rw [peq] at e; cases e; exact SeqAt.EqAt.str_int k0 t0 k t
    | str k => cases h'; obtain ⟨t, rfl⟩ := r'; rw [peq] at e; cases e; exact SeqAt.EqAt.str_str k0 t0 k t
    | tup ys =>
      obtain ⟨a', vs', rfl, sq', rs'⟩ := h'
      obtain rfl : u' = Value.ref a' := r'
      obtain ⟨its', r2, p2, _⟩ := I.tuple sq'
      rw [peq] at e; cases e
      exact SeqAt.EqAt.str_tuple k0 t0 p2 hu0
    | lst ys =>
      obtain ⟨a', vs', rfl, sq', rs'⟩ := h'
      obtain rfl : u' = Value.ref a' := r'
      obtain ⟨its', r2, p2, _⟩ := I.list sq'.sq
      rw [peq] at e; cases e
      exact SeqAt.EqAt.str_list k0 t0 p2.isList hu0
    | obj _ _ => simp [peq] at e
    | dic _ _ => simp [peq] at e
  | .obj k xs, y, v, v', u, u', A, b, hu, h, h', r, r', e => by
    cases y <;> simp [peq] at e
  | .dic k xs, y, v, v', u, u', A, b, hu, h, h', r, r', e => by
    cases y <;> simp [peq] at e
theorem eqps (I : Inv X pins σ H s) : ∀ {xs ys : List PV} {vs vs' : List V} {us us' : List Value} {A : Around} {j : Nat} {u u' : Value} {b : Bool}, A.units + pdepths xs < cLine → Reps X.K G H A0 xs vs → Reps X.K G H A0 ys vs' → Vals vs us → Vals vs' us' → peqs xs ys = some b →
    us[j]? = some u → us'[j]? = some u' → SeqAt.EqAt A s u u' (eAt xs ys j)
  | [], ys, vs, vs', us, us', A, j, u, u', b, hu, h, h', r, r', e, q, q' => by
    have h : vs = [] := h
    subst h; cases r
    simp at q
  | x :: xs, [], vs, vs', us, us', A, j, u, u', b, hu, h, h', r, r', e, q, q' => by
    have h' : vs' = [] := h'
    subst h'; cases r'
    simp at q'
  | x :: xs, y :: ys, vs, vs', us, us', A, j, u, u', b, hu, h, h', r, r', e, q, q' => by
    obtain ⟨v, t, rfl, h1, h2⟩ := h
    obtain ⟨v', t', rfl, h1', h2'⟩ := h'
    obtain ⟨a, c, e1, e2, rfl⟩ := peqs_cons e
    have hd : pdepths (x :: xs) = max x.depth (pdepths xs) := by rw [pdepths]
    cases r with
    | cons rx rt =>
      cases r' with
      | cons rx' rt' =>
        cases j with
        | zero =>
          simp at q q'
          subst q; subst q'
          have : eAt (x :: xs) (y :: ys) 0 = a := by show (peq x y).getD false = a; rw [e1]; rfl
          rw [this]
          exact eqp I (by omega) h1 h1' rx rx' e1
        | succ j => exact eqps I (j := j) (by omega) h2 h2' rt rt' e2 (by simpa using q) (by simpa using q')
end
theorem rcp (I : Inv X pins σ H s) : ∀ {x y : PV} {v v' : V} {u u' : Value} {A : Around} {b : Bool}, A.units + x.depth < cLine → RepB X.K G H A0 x v → RepB X.K G H A0 y v' → RelV v u → RelV v' u' → peq x y = some b → SeqAt.RcAt A s u u' b := by
  intro x y v v' u u' A b hu h h' r r' e
  have hu0 : A.units < cLine := Nat.lt_of_le_of_lt (Nat.le_add_right _ _) hu
  cases x with
  | tup xs =>
    obtain ⟨a, vs, rfl, sq, rs⟩ := h.tup
    obtain rfl : u = Value.ref a := r
    obtain ⟨its, r1, p1, _⟩ := I.tuple sq
    cases y with
    | tup ys =>
      obtain ⟨a', vs', rfl, sq', rs'⟩ := h'.tup
      obtain rfl : u' = Value.ref a' := r'
      obtain ⟨its', r2, p2, _⟩ := I.tuple sq'
      rw [peq] at e
      have hd : (PV.tup xs).depth = pdepths xs + 1 := by rw [PV.depth]
      have e4 : its.toArray.size = xs.length := by rw [List.size_toArray, ← r1.length, rs.len]
      have e5 : its'.toArray.size = ys.length := by rw [List.size_toArray, ← r2.length, rs'.len]
      have q := SeqAt.RcAt.tuples (A := A) (s := s) (e := eAt xs ys) p1 p2 (by omega) fun j h1 h2 => by
          have h1' : j < its.length := by simpa using h1
          have h2' : j < its'.length := by simpa using h2
          have := eqps I (A := A.in1) (j := j) (by show A.units + 1 + pdepths xs < cLine; omega) rs rs' r1 r2 e (List.getElem?_eq_getElem h1') (List.getElem?_eq_getElem h2')
          simpa using this
      rw [e4, e5, peqs_all e] at q
      exact q
    | lst ys =>
      obtain ⟨a', vs', rfl, sq', rs'⟩ := h'.lst
      obtain rfl : u' = Value.ref a' := r'
      obtain ⟨its', r2, p2, _⟩ := I.list sq'
      rw [peq] at e
      cases e
      exact SeqAt.RcAt.tuple_list p1 p2.isList hu0
    | non => rw [h'.non] at r'; cases r'; rw [peq] at e; cases e; exact SeqAt.RcAt.tuple_none p1 hu0
    | bl k => rw [h'.bl] at r'; cases r'; rw [peq] at e; cases e; exact SeqAt.RcAt.tuple_bool k p1 hu0
    | int k => rw [h'.int] at r'; obtain ⟨t, rfl⟩ := r'; rw [peq] at e; cases e; exact SeqAt.RcAt.tuple_int k t p1 hu0
    | str k => rw [h'.str] at r'; obtain ⟨t, rfl⟩ := r'; rw [peq] at e; cases e; exact SeqAt.RcAt.tuple_str k t p1 hu0
    | obj _ _ => simp [peq] at e
    | dic _ _ => simp [peq] at e
  | lst xs =>
    obtain ⟨a, vs, rfl, sq, rs⟩ := h.lst
    obtain rfl : u = Value.ref a := r
    obtain ⟨its, r1, p1, _⟩ := I.list sq
    cases y with
    | tup ys =>
      obtain ⟨a', vs', rfl, sq', rs'⟩ := h'.tup
      obtain rfl : u' = Value.ref a' := r'
      obtain ⟨its', r2, p2, _⟩ := I.tuple sq'
      rw [peq] at e
      cases e
      exact SeqAt.RcAt.list_tuple p1.isList p2 hu0
    | lst ys =>
      obtain ⟨a', vs', rfl, sq', rs'⟩ := h'.lst
      obtain rfl : u' = Value.ref a' := r'
      obtain ⟨its', r2, p2, _⟩ := I.list sq'
      rw [peq] at e
      have hd : (PV.lst xs).depth = pdepths xs + 1 := by rw [PV.depth]
      have e4 : its.toArray.size = xs.length := by rw [List.size_toArray, ← r1.length, rs.len]
      have e5 : its'.toArray.size = ys.length := by rw [List.size_toArray, ← r2.length, rs'.len]
      by_cases hl : xs.length = ys.length
      · rw [if_pos hl] at e
        have q := SeqAt.RcAt.lists (A := A) (s := s) (e := eAt xs ys) p1.isList p2.isList (by rw [e4, e5, hl]) (by omega) fun j h1 h2 => by
            have h1' : j < its.length := by simpa using h1
            have h2' : j < its'.length := by simpa using h2
            have := eqps I (A := A.in1) (j := j) (by show A.units + 1 + pdepths xs < cLine; omega) rs rs' r1 r2 e (List.getElem?_eq_getElem h1') (List.getElem?_eq_getElem h2')
            simpa using this
        have q2 := peqs_all e
        rw [hl, Nat.min_self, beq_self_eq_true, Bool.and_true] at q2
        rw [e4, hl, q2] at q
        exact q
      · rw [if_neg hl] at e
        cases e
        exact SeqAt.RcAt.lists_lengths p1.isList p2.isList (by rw [e4, e5]; simpa using hl) hu0
    | non => rw [h'.non] at r'; cases r'; rw [peq] at e; cases e; exact SeqAt.RcAt.list_none p1.isList hu0
    | bl k => rw [h'.bl] at r'; cases r'; rw [peq] at e; cases e; exact SeqAt.RcAt.list_bool k p1.isList hu0
    | int k => rw [h'.int] at r'; obtain ⟨t, rfl⟩ := r'; rw [peq] at e; cases e; exact SeqAt.RcAt.list_int k t p1.isList hu0
    | str k => rw [h'.str] at r'; obtain ⟨t, rfl⟩ := r'; rw [peq] at e; cases e; exact SeqAt.RcAt.list_str k t p1.isList hu0
    | obj _ _ => simp [peq] at e
    | dic _ _ => simp [peq] at e
  | non =>
    rw [h.non] at r
    cases r
    cases y with
    | non => rw [h'.non] at r'; cases r'; rw [peq] at e; cases e; exact SeqAt.RcAt.none_none
    | bl k => rw [h'.bl] at r'; cases r'; rw [peq] at e; cases e; exact SeqAt.RcAt.none_bool k
    | int k => rw [h'.int] at r'; obtain ⟨t, rfl⟩ := r'; rw [peq] at e; cases e; exact SeqAt.RcAt.none_int k t
    | str k => rw [h'.str] at r'; obtain ⟨t, rfl⟩ := r'; rw [peq] at e; cases e; exact SeqAt.RcAt.none_str k t
    | tup ys =>
      obtain ⟨a', vs', rfl, sq', rs'⟩ := h'.tup
      obtain rfl : u' = Value.ref a' := r'
      obtain ⟨its', r2, p2, _⟩ := I.tuple sq'
      rw [peq] at e; cases e
      exact SeqAt.RcAt.none_tuple p2 hu0
    | lst ys =>
      obtain ⟨a', vs', rfl, sq', rs'⟩ := h'.lst
      obtain rfl : u' = Value.ref a' := r'
      obtain ⟨its', r2, p2, _⟩ := I.list sq'
      rw [peq] at e; cases e
      exact SeqAt.RcAt.none_list p2.isList hu0
    | obj _ _ => simp [peq] at e
    | dic _ _ => simp [peq] at e
  | bl k0 =>
    rw [h.bl] at r
    cases r
    cases y with
    | non => rw [h'.non] at r'; cases r'; rw [peq] at e; cases e; exact SeqAt.RcAt.bool_none k0
    | bl k => rw [h'.bl] at r'; cases r'; rw [peq] at e; cases e; exact SeqAt.RcAt.bool_bool k0 k
    | int k => rw [h'.int] at r'; obtain ⟨t, rfl⟩ := r'; rw [peq] at e; cases e; exact SeqAt.RcAt.bool_int k0 k t
    | str k => rw [h'.str] at r'; obtain ⟨t, rfl⟩ := r'; rw [peq] at e; cases e; exact SeqAt.RcAt.bool_str k0 k t
    | tup ys =>
      obtain ⟨a', vs', rfl, sq', rs'⟩ := h'.tup
      obtain rfl : u' = Value.ref a' := r'
      obtain ⟨its', r2, p2, _⟩ := I.tuple sq'
      rw [peq] at e; cases e
      exact SeqAt.RcAt.bool_tuple k0 p2 hu0
    | lst ys =>
      obtain ⟨a', vs', rfl, sq', rs'⟩ := h'.lst
      obtain rfl : u' = Value.ref a' := r'
      obtain ⟨its', r2, p2, _⟩ := I.list sq'
      rw [peq] at e; cases e
      exact SeqAt.RcAt.bool_list k0 p2.isList hu0
    | obj _ _ => simp [peq] at e
    | dic _ _ => simp [peq] at e
  | int k0 =>
    rw [h.int] at r
    obtain ⟨t0, rfl⟩ := r
    cases y with
    | non => rw [h'.non] at r'; cases r'; rw [peq] at e; cases e; exact SeqAt.RcAt.int_none k0 t0
    | bl k => rw [h'.bl] at r'; cases r'; rw [peq] at e; cases e; exact SeqAt.RcAt.int_bool k0 t0 k
    | int k => rw [h'.int] at r'; obtain ⟨t, rfl⟩ := r'; rw [peq] at e; cases e; exact SeqAt.RcAt.int_int k0 t0 k t
    | str k => rw [h'.str] at r'; obtain ⟨t, rfl⟩ := r'; rw [peq] at e; cases e; exact SeqAt.RcAt.int_str k0 t0 k t
    | tup ys =>
      obtain ⟨a', vs', rfl, sq', rs'⟩ := h'.tup
      obtain rfl : u' = Value.ref a' := r'
      obtain ⟨its', r2, p2, _⟩ := I.tuple sq'
      rw [peq] at e; cases e
      exact SeqAt.RcAt.int_tuple k0 t0 p2 hu0
    | lst ys =>
      obtain ⟨a', vs', rfl, sq', rs'⟩ := h'.lst
      obtain rfl : u' = Value.ref a' := r'
      obtain ⟨its', r2, p2, _⟩ := I.list sq'
      rw [peq] at e; cases e
      exact SeqAt.RcAt.int_list k0 t0 p2.isList hu0
    | obj _ _ => simp [peq] at e
    | dic _ _ => simp [peq] at e
  | str k0 =>
    rw [h.str] at r
    obtain ⟨t0, rfl⟩ := r
    cases y with
    | non => rw [h'.non] at r'; cases r'; rw [peq] at e; cases e; exact SeqAt.RcAt.str_none k0 t0
    | bl k => rw [h'.bl] at r'; cases r'; rw [peq] at e; cases e; exact SeqAt.RcAt.str_bool k0 t0 k
    | int k => rw [h'.int] at r'; obtain ⟨t, rfl⟩ := r'; rw [peq] at e; cases e; exact SeqAt.RcAt.str_int k0 t0 k t
    | str k => rw [h'.str] at r'; obtain ⟨t, rfl⟩ := r'; rw [peq] at e; cases e; exact SeqAt.RcAt.str_str k0 t0 k t
    | tup ys =>
      obtain ⟨a', vs', rfl, sq', rs'⟩ := h'.tup
      obtain rfl : u' = Value.ref a' := r'
      obtain ⟨its', r2, p2, _⟩ := I.tuple sq'
      rw [peq] at e; cases e
      exact SeqAt.RcAt.str_tuple k0 t0 p2 hu0
    | lst ys =>
      obtain ⟨a', vs', rfl, sq', rs'⟩ := h'.lst
      obtain rfl : u' = Value.ref a' := r'
      obtain ⟨its', r2, p2, _⟩ := I.list sq'
      rw [peq] at e; cases e
      exact SeqAt.RcAt.str_list k0 t0 p2.isList hu0
    | obj _ _ => simp [peq] at e
    | dic _ _ => simp [peq] at e
  | obj _ _ => cases y <;> simp [peq] at e
  | dic _ _ => cases y <;> simp [peq] at e
theorem rnp (I : Inv X pins σ H s) : ∀ {x y : PV} {v v' : V} {u u' : Value} {A : Around} {b : Bool}, A.units + x.depth < cLine → RepB X.K G H A0 x v → RepB X.K G H A0 y v' → RelV v u → RelV v' u' → peq x y = some b → SeqAt.RcNeAt A s u u' (!b) := by
  intro x y v v' u u' A b hu h h' r r' e
  have hu0 : A.units < cLine := Nat.lt_of_le_of_lt (Nat.le_add_right _ _) hu
  cases x with
  | tup xs =>
    obtain ⟨a, vs, rfl, sq, rs⟩ := h.tup
    obtain rfl : u = Value.ref a := r
    obtain ⟨its, r1, p1, _⟩ := I.tuple sq
    cases y with
    | tup ys =>
      obtain ⟨a', vs', rfl, sq', rs'⟩ := h'.tup
      obtain rfl : u' = Value.ref a' := r'
      obtain ⟨its', r2, p2, _⟩ := I.tuple sq'
      rw [peq] at e
      have hd : (PV.tup xs).depth = pdepths xs + 1 := by rw [PV.depth]
      have e4 : its.toArray.size = xs.length := by rw [List.size_toArray, ← r1.length, rs.len]
      have e5 : its'.toArray.size = ys.length := by rw [List.size_toArray, ← r2.length, rs'.len]
      have q := SeqAt.RcNeAt.tuples (A := A) (s := s) (e := eAt xs ys) p1 p2 (by omega) fun j h1 h2 => by
          have h1' : j < its.length := by simpa using h1
          have h2' : j < its'.length := by simpa using h2
          have := eqps I (A := A.in1) (j := j) (by show A.units + 1 + pdepths xs < cLine; omega) rs rs' r1 r2 e (List.getElem?_eq_getElem h1') (List.getElem?_eq_getElem h2')
          simpa using this
      rw [e4, e5, peqs_all e] at q
      exact q
    | lst ys =>
      obtain ⟨a', vs', rfl, sq', rs'⟩ := h'.lst
      obtain rfl : u' = Value.ref a' := r'
      obtain ⟨its', r2, p2, _⟩ := I.list sq'
      rw [peq] at e
      cases e
      exact SeqAt.RcNeAt.tuple_list p1 p2.isList hu0
    | non => rw [h'.non] at r'; cases r'; rw [peq] at e; cases e; exact SeqAt.RcNeAt.tuple_none p1 hu0
    | bl k => rw [h'.bl] at r'; cases r'; rw [peq] at e; cases e; exact SeqAt.RcNeAt.tuple_bool k p1 hu0
    | int k => rw [h'.int] at r'; obtain ⟨t, rfl⟩ := r'; rw [peq] at e; cases e; exact SeqAt.RcNeAt.tuple_int k t p1 hu0
    | str k => rw [h'.str] at r'; obtain ⟨t, rfl⟩ := r'; rw [peq] at e; cases e; exact SeqAt.RcNeAt.tuple_str k t p1 hu0
    | obj _ _ => simp [peq] at e
    | dic _ _ => simp [peq] at e
  | lst xs =>
    obtain ⟨a, vs, rfl, sq, rs⟩ := h.lst
    obtain rfl : u = Value.ref a := r
    obtain ⟨its, r1, p1, _⟩ := I.list sq
    cases y with
    | tup ys =>
      obtain ⟨a', vs', rfl, sq', rs'⟩ := h'.tup
      obtain rfl : u' = Value.ref a' := r'
      obtain ⟨its', r2, p2, _⟩ := I.tuple sq'
      rw [peq] at e
      cases e
      exact SeqAt.RcNeAt.list_tuple p1.isList p2 hu0
    | lst ys =>
      obtain ⟨a', vs', rfl, sq', rs'⟩ := h'.lst
      obtain rfl : u' = Value.ref a' := r'
      obtain ⟨its', r2, p2, _⟩ := I.list sq'
      rw [peq] at e
      have hd : (PV.lst xs).depth = pdepths xs + 1 := by rw [PV.depth]
      have e4 : its.toArray.size = xs.length := by rw [List.size_toArray, ← r1.length, rs.len]
      have e5 : its'.toArray.size = ys.length := by rw [List.size_toArray, ← r2.length, rs'.len]
      by_cases hl : xs.length = ys.length
      · rw [if_pos hl] at e
        have q := SeqAt.RcNeAt.lists (A := A) (s := s) (e := eAt xs ys) p1.isList p2.isList (by rw [e4, e5, hl]) (by omega) fun j h1 h2 => by
            have h1' : j < its.length := by simpa using h1
            have h2' : j < its'.length := by simpa using h2
            have := eqps I (A := A.in1) (j := j) (by show A.units + 1 + pdepths xs < cLine; omega) rs rs' r1 r2 e (List.getElem?_eq_getElem h1') (List.getElem?_eq_getElem h2')
            simpa using this
        have q2 := peqs_all e
        rw [hl, Nat.min_self, beq_self_eq_true, Bool.and_true] at q2
        rw [e4, hl, q2] at q
        exact q
      · rw [if_neg hl] at e
        cases e
        exact SeqAt.RcNeAt.lists_lengths p1.isList p2.isList (by rw [e4, e5]; simpa using hl) hu0
    | non => rw [h'.non] at r'; cases r'; rw [peq] at e; cases e; exact SeqAt.RcNeAt.list_none p1.isList hu0
    | bl k => rw [h'.bl] at r'; cases r'; rw [peq] at e; cases e; exact SeqAt.RcNeAt.list_bool k p1.isList hu0
    | int k => rw [h'.int] at r'; obtain ⟨t, rfl⟩ := r'; rw [peq] at e; cases e; exact SeqAt.RcNeAt.list_int k t p1.isList hu0
    | str k => rw [h'.str] at r'; obtain ⟨t, rfl⟩ := r'; rw [peq] at e; cases e; exact SeqAt.RcNeAt.list_str k t p1.isList hu0
    | obj _ _ => simp [peq] at e
    | dic _ _ => simp [peq] at e
  | non =>
    rw [h.non] at r
    cases r
    cases y with
    | non => rw [h'.non] at r'; cases r'; rw [peq] at e; cases e; exact SeqAt.RcNeAt.none_none
    | bl k => rw [h'.bl] at r'; cases r'; rw [peq] at e; cases e; exact SeqAt.RcNeAt.none_bool k
    | int k => rw [h'.int] at r'; obtain ⟨t, rfl⟩ := r'; rw [peq] at e; cases e; exact SeqAt.RcNeAt.none_int k t
    | str k => rw [h'.str] at r'; obtain ⟨t, rfl⟩ := r'; rw [peq] at e; cases e; exact SeqAt.RcNeAt.none_str k t
    | tup ys =>
      obtain ⟨a', vs', rfl, sq', rs'⟩ := h'.tup
      obtain rfl : u' = Value.ref a' := r'
      obtain ⟨its', r2, p2, _⟩ := I.tuple sq'
      rw [peq] at e; cases e
      exact SeqAt.RcNeAt.none_tuple p2 hu0
    | lst ys =>
      obtain ⟨a', vs', rfl, sq', rs'⟩ := h'.lst
      obtain rfl : u' = Value.ref a' := r'
      obtain ⟨its', r2, p2, _⟩ := I.list sq'
      rw [peq] at e; cases e
      exact SeqAt.RcNeAt.none_list p2.isList hu0
    | obj _ _ => simp [peq] at e
    | dic _ _ => simp [peq] at e
  | bl k0 =>
    rw [h.bl] at r
    cases r
    cases y with
    | non => rw [h'.non] at r'; cases r'; rw [peq] at e; cases e; exact SeqAt.RcNeAt.bool_none k0
    | bl k => rw [h'.bl] at r'; cases r'; rw [peq] at e; cases e; exact SeqAt.RcNeAt.bool_bool k0 k
    | int k => rw [h'.int] at r'; obtain ⟨t, rfl⟩ := r'; rw [peq] at e; cases e; exact SeqAt.RcNeAt.bool_int k0 k t
    | str k => rw [h'.str] at r'; obtain ⟨t, rfl⟩ := r'; rw [peq] at e; cases e; exact SeqAt.RcNeAt.bool_str k0 k t
    | tup ys =>
      obtain ⟨a', vs', rfl, sq', rs'⟩ := h'.tup
      obtain rfl : u' = Value.ref a' := r'
      obtain ⟨its', r2, p2, _⟩ := I.tuple sq'
      rw [peq] at e; cases e
      exact SeqAt.RcNeAt.bool_tuple k0 p2 hu0
    | lst ys =>
      obtain ⟨a', vs', rfl, sq', rs'⟩ := h'.lst
      obtain rfl : u' = Value.ref a' := r'
      obtain ⟨its', r2, p2, _⟩ := I.list sq'
      rw [peq] at e; cases e
      exact SeqAt.RcNeAt.bool_list k0 p2.isList hu0
    | obj _ _ => simp [peq] at e
    | dic _ _ => simp [peq] at e
  | int k0 =>
    rw [h.int] at r
    obtain ⟨t0, rfl⟩ := r
    cases y with
    | non => rw [h'.non] at r'; cases r'; rw [peq] at e; cases e; exact SeqAt.RcNeAt.int_none k0 t0
    | bl k => rw [h'.bl] at r'; cases r'; rw [peq] at e; cases e; exact SeqAt.RcNeAt.int_bool k0 t0 k
    | int k => rw [h'.int] at r'; obtain ⟨t, rfl⟩ := r'; rw [peq] at e; cases e; exact SeqAt.RcNeAt.int_int k0 t0 k t
    | str k => rw [h'.str] at r'; obtain ⟨t, rfl⟩ := r'; rw [peq] at e; cases e; exact SeqAt.RcNeAt.int_str k0 t0 k t
    | tup ys =>
      obtain ⟨a', vs', rfl, sq', rs'⟩ := h'.tup
      obtain rfl : u' = Value.ref a' := r'
      obtain ⟨its', r2, p2, _⟩ := I.tuple sq'
      rw [peq] at e; cases e
      exact SeqAt.RcNeAt.int_tuple k0 t0 p2 hu0
    | lst ys =>
      obtain ⟨a', vs', rfl, sq', rs'⟩ := h'.lst
      obtain rfl : u' = Value.ref a' := r'
      obtain ⟨its', r2, p2, _⟩ := I.list sq'
      rw [peq] at e; cases e
      exact SeqAt.RcNeAt.int_list k0 t0 p2.isList hu0
    | obj _ _ => simp [peq] at e
    | dic _ _ => simp [peq] at e
  | str k0 =>
    rw [h.str] at r
    obtain ⟨t0, rfl⟩ := r
    cases y with
    | non => rw [h'.non] at r'; cases r'; rw [peq] at e; cases e; exact SeqAt.RcNeAt.str_none k0 t0
    | bl k => rw [h'.bl] at r'; cases r'; rw [peq] at e; cases e; exact SeqAt.RcNeAt.str_bool k0 t0 k
    | int k => rw [h'.int] at r'; obtain ⟨t, rfl⟩ := r'; rw [peq] at e; cases e; exact SeqAt.RcNeAt.str_int k0 t0 k t
    | str k => rw [h'.str] at r'; obtain ⟨t, rfl⟩ := r'; rw [peq] at e; cases e; exact SeqAt.RcNeAt.str_str k0 t0 k t
    | tup ys =>
      obtain ⟨a', vs', rfl, sq', rs'⟩ := h'.tup
      obtain rfl : u' = Value.ref a' := r'
      obtain ⟨its', r2, p2, _⟩ := I.tuple sq'
      rw [peq] at e; cases e
      exact SeqAt.RcNeAt.str_tuple k0 t0 p2 hu0
    | lst ys =>
      obtain ⟨a', vs', rfl, sq', rs'⟩ := h'.lst
      obtain rfl : u' = Value.ref a' := r'
      obtain ⟨its', r2, p2, _⟩ := I.list sq'
      rw [peq] at e; cases e
      exact SeqAt.RcNeAt.str_list k0 t0 p2.isList hu0
    | obj _ _ => simp [peq] at e
    | dic _ _ => simp [peq] at e
  | obj _ _ => cases y <;> simp [peq] at e
  | dic _ _ => cases y <;> simp [peq] at e
/-! ### == and != -/
def fEq (x y : PV) : Rx PV := if x.depth < 100 then (match peq x y with | some b => .ok (.bl b) | none => .bad) else .bad
def fNe (x y : PV) : Rx PV := if x.depth < 100 then (match peq x y with | some b => .ok (.bl (!b)) | none => .bad) else .bad
def rEqP (K : PySem.W.Frag) (G : Pg) (neg : Bool) : R2 := fun v u H Q => ∃ A x y b, x.depth < 100 ∧ RepB K G H A x v ∧ RepB K G H A y u ∧ peq x y = some b ∧ Q (.bl (if neg then !b else b)) H
theorem op_eqP (hu : X.A.units + 100 < cLine) : OpR X (compareOp .Eq) (rEqP X.K G false) := by
  intro pins s σ H v u v' u' Q I rx ry h
  obtain ⟨A, x, y, b, hd, h1, h2, e, q⟩ := h
  exact rcp I (by omega) h1 h2 rx ry e X.prog X.w _ _ ⟨.bl b, H, I, rfl, q⟩
theorem op_neP (hu : X.A.units + 100 < cLine) : OpR X (compareOp .NotEq) (rEqP X.K G true) := by
  intro pins s σ H v u v' u' Q I rx ry h
  obtain ⟨A, x, y, b, hd, h1, h2, e, q⟩ := h
  exact rnp I (by omega) h1 h2 rx ry e X.prog X.w _ _ ⟨.bl (!b), H, I, rfl, q⟩
theorem o2_eq {K : PySem.W.Frag} : Op2 K G fEq (rEqP K G false) := by
  intro H A x y w v u Q hu e r1 r2 q
  unfold fEq at e
  split at e
  · rename_i hd
    split at e
    · rename_i b hb; cases e; exact ⟨A, x, y, b, hd, r1, r2, hb, q _ H (Same.refl H) rfl⟩
    · cases e
  · cases e
theorem o2_ne {K : PySem.W.Frag} : Op2 K G fNe (rEqP K G true) := by
  intro H A x y w v u Q hu e r1 r2 q
  unfold fNe at e
  split at e
  · rename_i hd
    split at e
    · rename_i b hb; cases e; exact ⟨A, x, y, b, hd, r1, r2, hb, q _ H (Same.refl H) rfl⟩
    · cases e
  · cases e
section
variable {e a b : Expr} {da db : DP} {pos : Pos}
theorem hu100 {A : Around} {k : Nat} (hr : Room k A) : A.units + 100 < cLine := by have := hr.un; omega
theorem p_eq {k : Nat} (hr : Room k X.A) (ha : JB X G a da) (hb : JB X G b db) : JP X G (.Compare a [.Eq] [b] pos) (d2 fEq da db) := p_cmp (op_eqP (hu100 hr)) o2_eq ha hb (nomark _)
theorem t_eq {k : Nat} (hr : Room k X.A) (ha : JB X G a da) (hb : JB X G b db) : JT X G (.Compare a [.Eq] [b] pos) (dTr (d2 fEq da db)) := t_cmp (op_eqP (hu100 hr)) o2_eq ha hb (nomark _)
theorem t_ne {k : Nat} (hr : Room k X.A) (ha : JB X G a da) (hb : JB X G b db) : JT X G (.Compare a [.NotEq] [b] pos) (dTr (d2 fNe da db)) := t_cmp (op_neP (hu100 hr)) o2_ne ha hb (nomark _)
/-! ### in, not in, over lists and tuples of flat items -/
def flv : PV → V
  | .non => .non | .bl b => .bl b | .int i => .int i | .str x => .str x | _ => .ref 0
theorem rep_flat {K : PySem.W.Frag} {H : Hp} {A : Av} {x : PV} {v : V} (r : RepB K G H A x v) (f : isF x = true) : v = flv x ∧ flatV v = true := by
  cases x <;> first | (rw [r.non]; exact ⟨rfl, rfl⟩) | (rw [r.bl]; exact ⟨rfl, rfl⟩) | (rw [r.int]; exact ⟨rfl, rfl⟩) | (rw [r.str]; exact ⟨rfl, rfl⟩) | cases f
theorem reps_flat {K : PySem.W.Frag} {H : Hp} {A : Av} : ∀ {xs : List PV} {vs : List V}, Reps K G H A xs vs → xs.all isF = true → vs = xs.map flv ∧ vs.all flatV = true
  | [], vs, h, _ => by have h : vs = [] := h; subst h; exact ⟨rfl, rfl⟩
  | x :: xs, vs, h, f => by
    obtain ⟨v, r, rfl, h1, h2⟩ := h
    rw [List.all_cons, Bool.and_eq_true] at f
    obtain ⟨e1, f1⟩ := rep_flat (.inl h1) f.1
    obtain ⟨e2, f2⟩ := reps_flat h2 f.2
    exact ⟨by rw [e1, e2]; rfl, by rw [List.all_cons, f1, f2]; rfl⟩
end
end
end DN
end
section
set_option Elab.async false
set_option linter.all false
set_option maxRecDepth 100000
set_option maxHeartbeats 4000000
namespace DN
open PySem PySem.Spec PyProof.Rows L2
/-! ### tables -/
section
variable {P : Program} {w : World} {K : PySem.W.Frag} {mg : Str → Option Value} {base : Heap} {G : Pg} {n : Nat} {m f : Str} {ms : List Bool}
theorem look_cons {α : Type} {c c' : Nat} {x y : α} {l : List (Nat × α)} (h : List.lookup c' ((c, x) :: l) = some y) : (c' = c ∧ y = x) ∨ l.lookup c' = some y := by
  rw [List.lookup_cons] at h
  by_cases e : c' = c
  · subst e
    simp at h
    exact .inl ⟨rfl, h.symm⟩
  · have : (c' == c) = false := by simpa using e
    rw [this] at h
    exact .inr h
theorem mt_nil {g : Nat → List PV → Rx PV} : MtOk P w K mg base G n m ms [] g := ⟨fun c f h => by simp at h⟩
theorem mt_cons {g : Nat → List PV → Rx PV} {c fi : Nat} {l : List (Nat × Nat)} (h : MethAt P w K mg base CX0 n (G.cA c) m (spG K G (false :: ms) (g fi))) (hm : m ∉ G.fN c) (r : MtOk P w K mg base G n m ms l g) : MtOk P w K mg base G n m ms ((c, fi) :: l) g :=
  ⟨fun c' f' e => by
    rcases look_cons e with ⟨rfl, rfl⟩ | e
    · exact ⟨h, hm⟩
    · exact r.all c' f' e⟩
theorem fl_nil : FldOk K G f [] := ⟨fun c j h => by simp at h⟩
theorem fl_cons {c j : Nat} {l : List (Nat × Nat)} (h1 : Cls K (G.cA c)) (h2 : NoAttr K (G.cA c) f) (h3 : (G.fN c).Nodup) (h4 : (G.fN c)[j]? = some f) (r : FldOk K G f l) : FldOk K G f ((c, j) :: l) :=
  ⟨fun c' f' e => by
    rcases look_cons e with ⟨rfl, rfl⟩ | e
    · exact ⟨h1, h2, h3, h4⟩
    · exact r.all c' f' e⟩
theorem is_nil {cv : Value} : IsiOk K G cv [] := ⟨fun c j h => by simp at h, fun c j h => by simp at h⟩
theorem is_cons {cv : Value} {q : Nat} {b : Bool} {l : List (Nat × Bool)} (h1 : PySem.W.kitOne K (tyOfKd G q) cv = some b) (h2 : q < 10) (r : IsiOk K G cv l) : IsiOk K G cv ((q, b) :: l) :=
  ⟨fun c' f' e => by
    rcases look_cons e with ⟨rfl, rfl⟩ | e
    · exact h1
    · exact r.kit c' f' e, fun c' f' e => by
    rcases look_cons e with ⟨z, rfl⟩ | e
    · omega
    · exact r.cls c' f' e⟩
theorem is_consC {cv : Value} {c : Nat} {b : Bool} {l : List (Nat × Bool)} (h1 : PySem.W.kitOne K (.ref (G.cA c)) cv = some b) (h2 : ClsTy K (G.cA c)) (r : IsiOk K G cv l) : IsiOk K G cv ((c + 10, b) :: l) :=
  ⟨fun c' f' e => by
    rcases look_cons e with ⟨rfl, rfl⟩ | e
    · exact h1
    · exact r.kit c' f' e, fun c' f' e => by
    rcases look_cons e with ⟨z, rfl⟩ | e
    · have : c' = c := by omega
      subst this; exact h2
    · exact r.cls c' f' e⟩
theorem clsTy {C : Addr} (h : ClsF K C) : ClsTy K C := fun H a dx fs e => h.ty e
theorem ref_only {a : Addr} : ∀ u, RelV (V.ref a) u → u = Value.ref a := fun _ h => h
theorem ty_only {n : String} : ∀ u, RelV (V.ty n) u → u = Value.type n := fun _ h => h
theorem spG_none {f : Addr} {fd : FuncData} {ps : List Str} {g : List PV → Rx PV} (h : ∀ ws, g ws = .bad) : FnOk P w K mg base CX0 n f fd ps (spG K G ms g) := fn_none fun vs H Q E ⟨A, ws, w, u, r, e, q⟩ => by rw [h] at e; cases e
theorem spN_none {f : Addr} {fd : FuncData} {ps : List Str} {g : List PV → Rx PV} (h : ∀ ws, g ws = .bad) : FnOk P w K mg base CX0 n f fd ps (spN K G ms g) := fn_none fun vs H Q E ⟨A, ws, w, u, r, e, q⟩ => by rw [h] at e; cases e
end
theorem gk_set {i : Nat} : ∀ (w : PV) (ps ps' : PSt), gSet i w ps = .ok ps' → ∀ (j : Nat) (x : Ow), ps'[j]? = some (Sl.own x) → ps[j]? = some (Sl.own x) := by
  intro w ps ps' e j x h
  cases e
  by_cases hj : j = i
  · subst hj
    have hl : j < ps.length := by
      have := (List.getElem?_eq_some_iff.mp h).1
      simpa using this
    rw [List.getElem?_set_self hl] at h
    cases h
  · rw [List.getElem?_set_ne (fun z => hj z.symm)] at h
    exact h
/-! ### the law -/
theorem law_sp {K : PySem.W.Frag} {G : Pg} {H : Hp} {a : Addr} {ns : List Int} {g : List PV → Rx PV} (hO : Only H) (hS : SqL K H a (ns.map V.int)) (hg : g [.lst (ns.map PV.int)] = .ok (.bl true)) : spG K G [false] g [.ref a] H (fun v _ => v = .bl true) fun _ _ _ => False := by
  refine ⟨fun _ => False, [.lst (ns.map PV.int)], .bl true, fun a z => z.elim, ⟨_, _, _, _, rfl, rfl, ?_, rfl, rfl⟩, hg, fun v H' s r => r⟩
  rw [if_neg Bool.false_ne_true]
  refine ⟨a, _, rfl, ?_, Reps.ints ns⟩
  rcases hS with (h | ⟨o, h⟩) | h
  · exact .inl ⟨h, fun z => z⟩
  · exact .inr (.inl ⟨o, h⟩)
  · exact .inr (.inr h)
end DN
end
section
set_option Elab.async false
set_option linter.all false
set_option maxRecDepth 100000
set_option maxHeartbeats 4000000
namespace DN
open PySem PySem.Spec PyProof.Rows L2
section
variable {X : Cx} {G : Pg} {e a b o tg : Expr} {es : List Expr} {da db : DP} {d : DA} {pos p apos cpos : Pos} {x m : Str} {k i : Nat}
/-! ### TUPLE.index(e), the tuple one of the top -/
def idx : List PV → PV → Nat → Option Nat
  | [], _, _ => none
  | y :: ys, x, n => if eqV (flv y) (flv x) = true then some n else idx ys x (n + 1)
theorem idx_of : ∀ {ys : List PV} {x : PV} {n j : Nat}, idx ys x n = some j → n ≤ j ∧ (∃ y, ys[j - n]? = some y ∧ eqV (flv y) (flv x) = true) ∧ ∀ i y, i < j - n → ys[i]? = some y → eqV (flv y) (flv x) = false
  | [], x, n, j, h => by cases h
  | y :: ys, x, n, j, h => by
    unfold idx at h
    split at h
    · rename_i he
      cases h
      refine ⟨Nat.le_refl _, ⟨y, by simp, he⟩, fun i z hi => absurd hi (by omega)⟩
    · rename_i he
      obtain ⟨h1, ⟨z, h2, h3⟩, h4⟩ := idx_of h
      have hj : j - n = (j - (n + 1)) + 1 := by omega
      refine ⟨by omega, ⟨z, by rw [hj]; simpa using h2, h3⟩, fun i w hi e => ?_⟩
      cases i with
      | zero => simp at e; subst e; simpa using he
      | succ i => exact h4 i w (by omega) (by simpa using e)
def dIndex (ws : List PV) (d : DP) : DP := fun ps => (d ps).bind fun x => if isF x = true then (match idx ws x 0 with | some j => .ok (.int j) | none => .bad) else .bad
theorem p_index {x : Str} {t : Addr} {ws : List PV} {vs : List V} {pos' : Pos} (T : TopT X.K t vs) (hg : Gl X x) (hm : X.mg x = some (.ref t)) (hr : ∀ H A, Reps X.K G H A ws vs) (hf : ws.all isF = true) (he : JP X G e da) (hd : (x == ("__debug__" : Str)) = false := by decide)
    (hbase : attributeBase (.Name x pos') "index" X.env (eval (.Name x pos') X.env) = eval (.Name x pos') X.env := by rfl)
    (hfew : ((backTo cpos (starEach [e] X.env)).all (fun x => !x.1) && (backToKw cpos (keywordEach [] X.env)).all (fun x => x.1.isSome) && decide (([e] : List Expr).length + ([] : List Keyword).length + (if ([] : List Keyword).isEmpty then 0 else 1) < 30)) = true := by rfl)
    (hline : (apos.endLine == cpos.line) = true := by rfl) (hst : starEach [e] X.env = (false, eval e X.env) :: starEach [] X.env := by rfl) (hpl : (backTo cpos (starEach ([] : List Expr) X.env)).any (·.1) = false := by rfl) :
    JP X G (.Call (.Attribute (.Name x pos') "index" apos) [e] [] cpos) (dIndex ws da) :=
  imp (pe_bm PySem.F.plainAttrs_tuple PySem.F.slot_tuple_index PySem.F.type_tuple_index mt_indexT (pe_globR hg hm hd) (pa_cons he pa_nil hst) hbase hfew hline hst hpl) fun σ H Q ⟨c, ow, ps, w, R, e, q⟩ => by
    obtain ⟨y, e1, e2⟩ := bind_ok e
    split at e2
    · rename_i hy
      split at e2
      · rename_i j hj
        cases e2
        refine ⟨T.ty H, c, ow, ps, y, R, e1, fun v H' s r => ?_⟩
        obtain ⟨ev, fv⟩ := rep_flat (G := G) (.inl r) hy
        obtain ⟨evs, fvs⟩ := reps_flat (hr H' (av c ow)) hf
        obtain ⟨_, ⟨z, h2, h3⟩, h4⟩ := idx_of hj
        rw [Nat.sub_zero] at h2 h4
        refine ⟨t, vs, v, j, flv z, rfl, rfl, T.sq H', fv, fvs, by rw [evs, List.getElem?_map, h2]; rfl, by rw [ev]; exact h3, fun i u hi hu => ?_, q _ H' s rfl⟩
        rw [evs, List.getElem?_map] at hu
        cases q : ws[i]? with
        | none => rw [q] at hu; cases hu
        | some y' => rw [q] at hu; cases hu; rw [ev]; exact h4 i y' hi q
      · cases e2
    · cases e2
end
/-! ### the law's promise, whatever the classes' addresses -/
def spL (K : PySem.W.Frag) (fN : Nat → List Str) (g : List PV → Rx PV) : Sp := fun vs H Q E => ∀ cA, spG K ⟨cA, fN⟩ [false] g vs H Q E
theorem law_of {P : Program} {w : World} {K : PySem.W.Frag} {mg : Str → Option Value} {k : Nat} {fa : Addr} {x : Str} {fN : Nat → List Str} {g : List PV → Rx PV}
    (h : ∃ (cA : Nat → Addr) (fd : FuncData), (∀ (s : Shared) (v : Value), BindsTo s fd ⟨[v], []⟩ [(x, v)]) ∧ ∀ base : Heap, K.In base → base.Ns mainGlobals mg → FnOk P w K mg base CX0 k fa fd [x] (spG K ⟨cA, fN⟩ [false] g)) :
    ∃ fd : FuncData, (∀ (s : Shared) (v : Value), BindsTo s fd ⟨[v], []⟩ [(x, v)]) ∧ ∀ base : Heap, K.In base → base.Ns mainGlobals mg → FnOk P w K mg base CX0 k fa fd [x] (spL K fN g) := by
  obtain ⟨cA, fd, h1, h2⟩ := h
  exact ⟨fd, h1, fun base k1 k2 => (h2 base k1 k2).imp fun vs H Q E q => q cA⟩
end DN
end
section
set_option Elab.async false
set_option linter.all false
set_option maxRecDepth 100000
set_option maxHeartbeats 4000000
namespace DN
open PySem L2
/-! ### the mirrors' parts as equations -/
def fin : Rs → Rx PV
  | .ret w => .ok w
  | .retn xs => .ok (.lst xs)
  | .nx _ => .ok .non
  | .exc c => .exc c
  | _ => .bad
theorem runD_eq (ms : List Bool) (n : Nat) (d : DS) (ws : List PV) : runD ms n d ws = if ws.length = ms.length then fin (d (inP ms n ws)) else .bad := by
  unfold runD fin
  split
  · cases d (inP ms n ws) <;> rfl
  · rfl
theorem runD_of {ms : List Bool} {n : Nat} {d : DS} {ws : List PV} (h : ws.length = ms.length) : runD ms n d ws = fin (d (inP ms n ws)) := by rw [runD_eq, if_pos h]
@[simp] theorem fin_ret (w : PV) : fin (.ret w) = .ok w := rfl
@[simp] theorem fin_retn (xs : List PV) : fin (.retn xs) = .ok (.lst xs) := rfl
def finW : Rs → Rx PV
  | .retn xs => .ok (.lst xs)
  | .exc c => .exc c
  | _ => .bad
theorem runW_of {ms : List Bool} {n : Nat} {d : DS} {ws : List PV} (h : ws.length = ms.length) : runW ms n d ws = finW (d (inP ms n ws)) := by
  unfold runW finW
  rw [if_pos h] <;> (cases d (inP ms n ws) <;> rfl)
@[simp] theorem finW_retn (xs : List PV) : finW (.retn xs) = .ok (.lst xs) := rfl
@[simp] theorem finW_exc (c : Nat) : finW (.exc c) = .exc c := rfl
@[simp] theorem fin_nx (ps : PSt) : fin (.nx ps) = .ok .non := rfl
@[simp] theorem fin_exc (c : Nat) : fin (.exc c) = .exc c := rfl
def isiK (l : List (Nat × Bool)) (q : Nat) : Rx PV := match l.lookup q with | some b => .ok (.bl b) | none => .bad
def isiP (l : List (Nat × Bool)) (x : PV) : Rx PV := isiK l (kd x)
@[simp] theorem isiP_non (l : List (Nat × Bool)) : isiP l .non = isiK l 0 := rfl
@[simp] theorem isiP_bl (l : List (Nat × Bool)) (b : Bool) : isiP l (.bl b) = isiK l 1 := rfl
@[simp] theorem isiP_int (l : List (Nat × Bool)) (b : Int) : isiP l (.int b) = isiK l 2 := rfl
@[simp] theorem isiP_str (l : List (Nat × Bool)) (b : Str) : isiP l (.str b) = isiK l 3 := rfl
@[simp] theorem isiP_tup (l : List (Nat × Bool)) (b : List PV) : isiP l (.tup b) = isiK l 4 := rfl
@[simp] theorem isiP_lst (l : List (Nat × Bool)) (b : List PV) : isiP l (.lst b) = isiK l 5 := rfl
@[simp] theorem isiP_obj (l : List (Nat × Bool)) (k : Nat) (b : List PV) : isiP l (.obj k b) = isiK l (k + 10) := rfl
/-! what follows is taken up only when the way is known -/
def Rs.next (x : Rs) (r : DS) : Rs := match x with | .nx ps' => r ps' | y => y
def ifR (x : Rx Bool) (s r : DS) (ps : PSt) : Rs := x.st fun b => if b = true then s ps else r ps
def andR (x : Rx Bool) (u : DT) (ps : PSt) : Rx Bool := x.bind fun b => if b = true then u ps else .ok false
def orR (x : Rx Bool) (u : DT) (ps : PSt) : Rx Bool := x.bind fun b => if b = true then .ok true else u ps
def andVR (x : Rx PV) (b : DP) (ps : PSt) : Rx PV := x.bind fun y => match y with | .bl true => b ps | .bl false => .ok (.bl false) | _ => .bad
def orVR (x : Rx PV) (b : DP) (ps : PSt) : Rx PV := x.bind fun y => match y with | .bl true => .ok (.bl true) | .bl false => b ps | _ => .bad
def ifVR (x : Rx Bool) (a b : DP) (ps : PSt) : Rx PV := x.bind fun y => if y = true then a ps else b ps
def bind2 (x y : Rx PV) (f : PV → PV → Rx PV) : Rx PV := x.bind fun u => y.bind fun v => f u v
def consR (x : Rx PV) (xs : Rx (List PV)) : Rx (List PV) := x.bind fun u => xs.bind fun us => .ok (u :: us)
section
variable (ps : PSt) (i : Nat) (a b : DP) (d : DA) (t u : DT) (s r : DS) (f : PV → PV → Rx PV)
@[simp] theorem next_nx : (Rs.nx ps).next r = r ps := rfl
@[simp] theorem next_ret (w : PV) : (Rs.ret w).next r = .ret w := rfl
@[simp] theorem next_retn (xs : List PV) : (Rs.retn xs).next r = .retn xs := rfl
@[simp] theorem next_brk : (Rs.brk ps).next r = .brk ps := rfl
@[simp] theorem next_cnt : (Rs.cnt ps).next r = .cnt ps := rfl
@[simp] theorem next_exc (c : Nat) : (Rs.exc c).next r = .exc c := rfl
@[simp] theorem ifR_t : ifR (.ok true) s r ps = s ps := rfl
@[simp] theorem ifR_f : ifR (.ok false) s r ps = r ps := rfl
@[simp] theorem ifR_x (c : Nat) : ifR (.exc c) s r ps = .exc c := rfl
@[simp] theorem andR_t : andR (.ok true) t ps = t ps := rfl
@[simp] theorem andR_f : andR (.ok false) t ps = .ok false := rfl
@[simp] theorem orR_t : orR (.ok true) t ps = .ok true := rfl
@[simp] theorem orR_f : orR (.ok false) t ps = t ps := rfl
@[simp] theorem andVR_t : andVR (.ok (.bl true)) b ps = b ps := rfl
@[simp] theorem andVR_f : andVR (.ok (.bl false)) b ps = .ok (.bl false) := rfl
@[simp] theorem orVR_t : orVR (.ok (.bl true)) b ps = .ok (.bl true) := rfl
@[simp] theorem orVR_f : orVR (.ok (.bl false)) b ps = b ps := rfl
@[simp] theorem ifVR_t : ifVR (.ok true) a b ps = a ps := rfl
@[simp] theorem ifVR_f : ifVR (.ok false) a b ps = b ps := rfl
@[simp] theorem bind2_ok (x y : PV) : bind2 (.ok x) (.ok y) f = f x y := rfl
@[simp] theorem consR_ok (x : PV) (xs : List PV) : consR (.ok x) (.ok xs) = .ok (x :: xs) := rfl
@[simp] theorem e_var : dVar i ps = match ps[i]? with | some (.v w) => .ok w | _ => .bad := rfl
@[simp] theorem e_see : dSee i ps = match ps[i]? with | some (.v w) => .ok w | some (.own x) => .ok x.pv | some (.bor w) => .ok w | _ => .bad := rfl
@[simp] theorem e_C (w : PV) : dC w ps = .ok w := rfl
@[simp] theorem e_2 : d2 f a b ps = bind2 (a ps) (b ps) f := rfl
@[simp] theorem e_Tr : dTr a ps = (a ps).bind fun x => match x with | .bl b => .ok b | _ => .bad := rfl
@[simp] theorem e_andT : dAndT t u ps = andR (t ps) u ps := rfl
@[simp] theorem e_orT : dOrT t u ps = orR (t ps) u ps := rfl
@[simp] theorem e_notT : dNotT t ps = (t ps).bind fun x => .ok (!x) := rfl
@[simp] theorem e_andV : dAndV a b ps = andVR (a ps) b ps := rfl
@[simp] theorem e_orV : dOrV a b ps = orVR (a ps) b ps := rfl
@[simp] theorem e_notV : dNotV a ps = (a ps).bind fun x => match x with | .bl k => .ok (.bl (!k)) | _ => .bad := rfl
@[simp] theorem e_neg : dNeg a ps = (a ps).bind fun x => match x with | .int i => .ok (.int (-i)) | _ => .bad := rfl
@[simp] theorem e_ifV : dIfV t a b ps = ifVR (t ps) a b ps := rfl
@[simp] theorem e_isN : dIsN a ps = (a ps).bind fun x => .ok (.bl (isN x)) := rfl
@[simp] theorem e_notN : dNotN a ps = (a ps).bind fun x => .ok (.bl (!isN x)) := rfl
@[simp] theorem e_nil : dNil ps = .ok [] := rfl
@[simp] theorem e_cons : dCons a d ps = consR (a ps) (d ps) := rfl
@[simp] theorem e_tup : dTup d ps = (d ps).bind fun ws => .ok (.tup ws) := rfl
@[simp] theorem e_ofN : dOfN d ps = (d ps).bind fun ws => .ok (.lst ws) := rfl
@[simp] theorem e_call (g : List PV → Rx PV) : dCall g d ps = (d ps).bind g := rfl
@[simp] theorem e_callN (g : List PV → Rx (List PV)) : dCallN g d ps = (d ps).bind g := rfl
@[simp] theorem e_new (c : Nat) : dNew c d ps = (d ps).bind fun ws => .ok (.obj c ws) := rfl
@[simp] theorem e_items : dItems a ps = (a ps).bind fun x => match x with | .lst xs => .ok xs | _ => .bad := rfl
@[simp] theorem e_itemsT : dItemsT a ps = (a ps).bind fun x => match x with | .tup xs => .ok xs | _ => .bad := rfl
@[simp] theorem e_isi (l : List (Nat × Bool)) : dIsi l a ps = (a ps).bind (isiP l) := rfl
@[simp] theorem e_cut (dl dh : PSt → Rx (Option Int)) : dCut a dl dh ps = (a ps).bind fun x => (dl ps).bind fun lo => (dh ps).bind fun hi => match x with | .lst xs => .ok (cutP xs lo hi) | _ => .bad := rfl
@[simp] theorem e_O0 : dO0 ps = .ok none := rfl
@[simp] theorem e_O1 : dO1 a ps = (a ps).bind fun x => match x with | .int i => .ok (some i) | _ => .bad := rfl
@[simp] theorem e_catL : dCatL a b ps = (a ps).bind fun x => (b ps).bind fun y => match x, y with | .lst xs, .lst ys => if xs.length + ys.length ≤ sizeLine then .ok (xs ++ ys) else .bad | _, _ => .bad := rfl
@[simp] theorem e_next : sNext ps = .nx ps := rfl
@[simp] theorem e_brk : sBrk ps = .brk ps := rfl
@[simp] theorem e_cnt : sCnt ps = .cnt ps := rfl
@[simp] theorem e_seq : sSeq s r ps = (s ps).next r := rfl
@[simp] theorem e_set : sSet i a ps = (a ps).st fun w => .nx (ps.set i (.v w)) := rfl
@[simp] theorem e_setM (m : DM) : sSetM i m ps = (m ps).st fun w => .nx (w.2.set i (.v w.1)) := rfl
@[simp] theorem e_own : sOwn i d ps = (d ps).st fun ws => if i < ps.length then .nx (ps.set i (.own (.lst ws))) else .bad := rfl
@[simp] theorem e_asg (g : DG) : sAsg g a ps = (a ps).st fun w => (g w ps).st fun ps' => .nx ps' := rfl
@[simp] theorem e_expr (m : DM) : sExpr m ps = (m ps).st fun w => .nx w.2 := rfl
@[simp] theorem e_retW : sRetW d ps = (d ps).st fun xs => .retn xs := rfl
@[simp] theorem e_retO : sRetO i ps = match ps[i]? with | some (.own (.lst xs)) => .retn xs | _ => .bad := rfl
@[simp] theorem e_ret : sRet a ps = (a ps).st fun w => .ret w := rfl
@[simp] theorem e_retM (m : DM) : sRetM m ps = (m ps).st fun w => .ret w.1 := rfl
@[simp] theorem e_retN : sRetN ps = .ret .non := rfl
@[simp] theorem e_if : sIf t s r ps = ifR (t ps) s r ps := rfl
@[simp] theorem e_for (g : DG) : sFor d g s ps = (d ps).st fun ws => forD g s ws ps := rfl
@[simp] theorem e_lift : dLift a ps = (a ps).bind fun w => .ok (w, ps) := rfl
@[simp] theorem e_mnil : mNil ps = .ok ([], ps) := rfl
@[simp] theorem e_mcons (m : DM) (n : DMA) : mCons m n ps = (m ps).bind fun x => (n x.2).bind fun y => .ok (x.1 :: y.1, y.2) := rfl
@[simp] theorem e_mtup (n : DMA) : mTup n ps = (n ps).bind fun x => if x.1.length ≤ 1000 then .ok (.tup x.1, x.2) else .bad := rfl
@[simp] theorem e_mcall (n : DMA) (g : List PV → Rx PV) : mCall g n ps = (n ps).bind fun x => (g x.1).bind fun w => .ok (w, x.2) := rfl
@[simp] theorem e_frz : mFrz i ps = match ps[i]? with | some (.own y) => .ok (y.pv, ps.set i (.v y.pv)) | some (.v w) => .ok (w, ps) | _ => .bad := rfl
@[simp] theorem e_pop : mPop i ps = match ps[i]? with | some (.own (.lst xs)) => (match xs.getLast? with | some w => .ok (w, ps.set i (.own (.lst xs.dropLast))) | none => .bad) | _ => .bad := rfl
@[simp] theorem e_app (m : DM) : mApp i m ps = match ps[i]? with
  | some (.own (.lst _)) => (m ps).bind fun x => (match x.2[i]? with | some (.own (.lst xs)) => if xs.length < sizeLine then .ok (.non, x.2.set i (.own (.lst (xs ++ [x.1])))) else .bad | _ => .bad)
  | _ => .bad := rfl
@[simp] theorem e_gset (w : PV) : gSet i w ps = .ok (ps.set i (.v w)) := rfl
@[simp] theorem e_gnil : gNilD [] ps = .ok ps := rfl
@[simp] theorem e_gcons (g : DG) (gs : List PV → PSt → Rx PSt) (w : PV) (ws : List PV) : gConsD g gs (w :: ws) ps = (g w ps).bind fun ps' => gs ws ps' := rfl
@[simp] theorem e_gtup (n : Nat) (gs : List PV → PSt → Rx PSt) (ws : List PV) : gTupD n gs (.tup ws) ps = if ws.length = n then gs ws ps else .bad := rfl
@[simp] theorem e_fIi (g : Int → Int → PV) (x y : Int) : fI g (.int x) (.int y) = .ok (g x y) := rfl
@[simp] theorem e_fIc (C : Int → Int → Prop) [∀ i j, Decidable (C i j)] (g : Int → Int → PV) (x y : Int) : fIc C g (.int x) (.int y) = if C x y then .ok (g x y) else .bad := rfl
@[simp] theorem e_eqI (x y : Int) : fEq (.int x) (.int y) = .ok (.bl (x == y)) := rfl
@[simp] theorem e_eqS (x y : Str) : fEq (.str x) (.str y) = .ok (.bl (x == y)) := rfl
@[simp] theorem e_eqB (x y : Bool) : fEq (.bl x) (.bl y) = .ok (.bl (x == y)) := rfl
@[simp] theorem e_neI (x y : Int) : fNe (.int x) (.int y) = .ok (.bl (!(x == y))) := rfl
@[simp] theorem e_neS (x y : Str) : fNe (.str x) (.str y) = .ok (.bl (!(x == y))) := rfl
@[simp] theorem e_neB (x y : Bool) : fNe (.bl x) (.bl y) = .ok (.bl (!(x == y))) := rfl
@[simp] theorem e_ixL (xs : List PV) (j : Int) : fIx (.lst xs) (.int j) = match atI xs j with | some w => .ok w | none => .bad := rfl
@[simp] theorem e_ixT (xs : List PV) (j : Int) : fIx (.tup xs) (.int j) = match atI xs j with | some w => .ok w | none => .bad := rfl
@[simp] theorem e_lenL (xs : List PV) : bLen [.lst xs] = .ok (.int xs.length) := rfl
@[simp] theorem e_lenT (xs : List PV) : bLen [.tup xs] = .ok (.int xs.length) := rfl
@[simp] theorem e_fornil (g : DG) : forD g s [] ps = .nx ps := rfl
end
/-- a method of an object -/
def callM (tab : List (Nat × Nat)) (g : Nat → List PV → Rx PV) (x : PV) (ws : List PV) : Rx PV := match x with
  | .obj c xs => (match tab.lookup c with | some f => g f (.obj c xs :: ws) | none => .bad)
  | _ => .bad
def callD (tab : List (Nat × Nat)) (g : Nat → List PV → Rx PV) (x : PV) (m : Rx (List PV)) : Rx PV := match x with
  | .obj c xs => (match tab.lookup c with | some f => m.bind fun ws => g f (.obj c xs :: ws) | none => .bad)
  | _ => .bad
@[simp] theorem callD_ok (tab : List (Nat × Nat)) (g : Nat → List PV → Rx PV) (x : PV) (ws : List PV) : callD tab g x (.ok ws) = callM tab g x ws := rfl
@[simp] theorem e_meth (tab : List (Nat × Nat)) (g : Nat → List PV → Rx PV) (a : DP) (d : DA) (ps : PSt) : dMeth tab g a d ps = (a ps).bind fun x => callD tab g x (d ps) := rfl
def fldP (l : List (Nat × Nat)) (x : PV) : Rx PV := match x with
  | .obj k xs => (match l.lookup k with | some j => (match xs[j]? with | some w => .ok w | none => .bad) | none => .bad)
  | _ => .bad
@[simp] theorem e_fld (l : List (Nat × Nat)) (a : DP) (ps : PSt) : dFld l a ps = (a ps).bind (fldP l) := rfl
end DN
end
section
set_option Elab.async false
set_option linter.all false
set_option maxRecDepth 100000
set_option maxHeartbeats 4000000
namespace DN
open PySem PySem.Spec PyProof.Rows L2
section
variable {X : Cx} {G : Pg} {e a b o tg : Expr} {es : List Expr} {da db : DP} {d : DA} {pos p p2 apos cpos : Pos} {x m : Str} {k i : Nat}
def dLRng (d : DA) : DA := fun ps => (d ps).bind fun ws => match ws with | [.int j] => if -(2 ^ 62) ≤ j ∧ j ≤ 2 ^ 24 then .ok (rngP 0 j.toNat) else .bad | _ => .bad
end
@[simp] theorem e_lrng (ps : PSt) (d : DA) : dLRng d ps = (d ps).bind fun ws => match ws with | [.int j] => if -(2 ^ 62) ≤ j ∧ j ≤ 2 ^ 24 then .ok (rngP 0 j.toNat) else .bad | _ => .bad := rfl
/-! ### isinstance(x, (C, D)) -/
def dIsiT (l m : List (Nat × Bool)) (d : DP) : DP := fun ps => (d ps).bind fun x => match l.lookup (kd x), m.lookup (kd x) with | some a, some b => .ok (.bl (a || b)) | _, _ => .bad
section
variable {X : Cx} {G : Pg} {e c1 c2 : Expr} {da : DP} {pos p : Pos}
theorem kit2 {K : PySem.W.Frag} {t a b : Value} {x y : Bool} (h1 : PySem.W.kitOne K t a = some x) (h2 : PySem.W.kitOne K t b = some y) : PySem.W.kitAny K t [a, b] = some (x || y) := by
  unfold PySem.W.kitAny
  rw [h1]
  cases x with
  | true => rfl
  | false =>
    show PySem.W.kitAny K t [b] = some y
    unfold PySem.W.kitAny
    rw [h2]
    cases y <;> rfl
theorem call_isiT (C D : Addr) (l m : List (Nat × Bool)) (ok : IsiOk X.K G (.ref C) l) (ok2 : IsiOk X.K G (.ref D) m) : CallR X (.builtin "isinstance") (fun xs H Q => ∃ A w v tp a b, xs = [v, .ref tp] ∧ H tp = some (.tup [.ref C, .ref D]) ∧ RepB X.K G H A w v ∧ l.lookup (kd w) = some a ∧ m.lookup (kd w) = some b ∧ Q (.bl (a || b)) H) := by
  intro pins s σ H xs us Q I r h
  obtain ⟨A, w, v, tp, a, b, rfl, hT, rw', hl, hm, q⟩ := h
  obtain ⟨u, u', rfl, ru, rc⟩ := vals2 r
  obtain rfl : u' = Value.ref tp := rc
  have k1 := ok.kit _ _ hl
  have k2 := ok2.kit _ _ hm
  have kit := kit2 k1 k2
  obtain ⟨its, ri, ⟨⟨tc, tdd, td, tsl⟩, h1, h2, n, h3⟩, _⟩ := I.tuple (SqT.of hT)
  simp only at h2 h3
  subst h2 h3
  have ei : its = [.ref C, .ref D] := by
    cases ri with
    | cons r1 rr =>
      cases rr with
      | cons r2 rr =>
        cases rr
        rw [show _ = Value.ref C from r1, show _ = Value.ref D from r2]
  subst ei
  have fin : ∀ tk, EP X pins σ Q (.bool (a || b)) { s with toks := tk } := fun tk => ⟨.bl _, H, I.tok tk, rfl, q⟩
  cases w with
  | non => rw [rw'.non] at ru; cases (show u = Value.none from ru); exact PySem.W.kia_tup PySem.W.kitx_none I.kIn True.intro h1 kit (fun z => nomatch z) fin
  | bl k => rw [rw'.bl] at ru; cases (show u = Value.bool k from ru); exact PySem.W.kia_tup PySem.W.kitx_bool I.kIn True.intro h1 kit (fun z => nomatch z) fin
  | int i => rw [rw'.int] at ru; obtain ⟨t, q⟩ := (show ∃ t, u = Value.int i t from ru); cases q; exact PySem.W.kia_tup PySem.W.kitx_int I.kIn True.intro h1 kit (fun z => nomatch z) fin
  | str i => rw [rw'.str] at ru; obtain ⟨t, q⟩ := (show ∃ t, u = Value.str i t from ru); cases q; exact PySem.W.kia_tup PySem.W.kitx_str I.kIn True.intro h1 kit (fun z => nomatch z) fin
  | tup ws =>
    obtain ⟨a, vs, rfl, sq, rs⟩ := rw'.tup
    cases (show u = Value.ref a from ru)
    obtain ⟨its, _, p, _⟩ := I.tuple sq
    obtain ⟨o, h1', h2', _⟩ := p
    exact PySem.W.kia_tup PySem.W.kitx_tuple I.kIn ⟨o, h1', h2'⟩ h1 kit (fun z => nomatch z) fin
  | lst ws =>
    obtain ⟨a, vs, rfl, sq, rs⟩ := rw'.lst
    cases (show u = Value.ref a from ru)
    obtain ⟨its, _, ⟨o, n, h1', h2', _⟩, _⟩ := I.list sq
    exact PySem.W.kia_tup PySem.W.kitx_list I.kIn ⟨o, h1', h2'⟩ h1 kit (fun z => nomatch z) fin
  | dic ks ws =>
    obtain ⟨a, vs, rfl, hH, _, rs⟩ := rw'.dic
    cases (show u = Value.ref a from ru)
    obtain ⟨_, _, vs, _, p⟩ := (show ObjOk X.prog X.w H s.heap a (.dK _) from I.hok a _ hH)
    obtain ⟨o, es, ep, h1', h2', _⟩ := p
    exact PySem.W.kia_tup PySem.W.kitx_dict I.kIn ⟨o, h1', h2'.1⟩ h1 kit (fun z => nomatch z) fin
  | obj k ws =>
    obtain ⟨a, dx, vs, rfl, hH, _, _, rs⟩ := rw'.obj
    cases (show u = Value.ref a from ru)
    have ty := ok.cls k _ hl H a dx _ hH
    cases ty with
    | ins ea cl ha hn htk hm =>
      obtain ⟨mA, O, _⟩ := ins_get I.hok ea
      obtain ⟨od, J, _⟩ := O.look
      exact PySem.W.kia_tup (PySem.W.kitx_own (cl.get _) cl.hd ha hn htk hm) I.kIn J h1 kit (fun z => nomatch z) fin
theorem p_isiT {C D : Addr} {l m : List (Nat × Bool)} {k : Nat} {pt : Pos} (hg : Gl X "isinstance") (hm : X.mg "isinstance" = none) (ok : IsiOk X.K G (.ref C) l) (ok2 : IsiOk X.K G (.ref D) m) (ha : JB X G e da) (h1 : PE X c1 (tC (.ref C))) (h2 : PE X c2 (tC (.ref D)))
    (he : starEach [e, .Tuple [c1, c2] k pt] X.env = (false, eval e X.env) :: starEach [.Tuple [c1, c2] k pt] X.env := by rfl) (he2 : starEach [.Tuple [c1, c2] k pt] X.env = (false, eval (.Tuple [c1, c2] k pt) X.env) :: starEach [] X.env := by rfl)
    (he3 : starEach [c1, c2] X.env = (false, eval c1 X.env) :: starEach [c2] X.env := by rfl) (he4 : starEach [c2] X.env = (false, eval c2 X.env) :: starEach [] X.env := by rfl) (hpl : (backTo pos (starEach [.Tuple [c1, c2] k pt] X.env)).any (·.1) = false := by rfl) :
    JP X G (.Call (.Name "isinstance" p) [e, .Tuple [c1, c2] k pt] [] pos) (dIsiT l m da) :=
  imp (pe_callB (call_isiT C D l m ok ok2) hg hm boot_isinstance (pa_cons ha (pa_cons (pe_tup (pa_cons h1 (pa_cons h2 pa_nil he4) he3)) pa_nil he2) he) (by decide) (by decide) he hpl) fun σ H Q ⟨c, ow, ps, w, R, e, q⟩ => by
    obtain ⟨x, e1, e2⟩ := bind_ok e
    refine ⟨c, ow, ps, x, R, e1, fun v H' s r => ⟨by show 2 ≤ sizeLine; decide, fun tp htp => ?_⟩⟩
    have s2 := same_upd htp (.tup [.ref C, .ref D])
    split at e2
    · rename_i a b hl hm
      cases e2
      exact ⟨_, x, v, tp, a, b, rfl, upd_same, r.same s2, hl, hm, q _ _ (s.trans s2) rfl⟩
    · cases e2
end
def isiP2 (l m : List (Nat × Bool)) (x : PV) : Rx PV := match l.lookup (kd x), m.lookup (kd x) with | some a, some b => .ok (.bl (a || b)) | _, _ => .bad
@[simp] theorem e_isiT (l m : List (Nat × Bool)) (a : DP) (ps : PSt) : dIsiT l m a ps = (a ps).bind (isiP2 l m) := rfl
end DN
end
section
set_option Elab.async false
set_option linter.all false
set_option maxRecDepth 100000
set_option maxHeartbeats 4000000
namespace DN
open PySem L2
/-! ### lists -/
theorem cut_map (ns : List Int) (lo hi : Option Int) : ∃ ms : List Int, cutP (ns.map PV.int) lo hi = ms.map PV.int ∧ ms.length = min (HT.sIx ns.length ns.length hi - HT.sIx ns.length 0 lo) (ns.length - HT.sIx ns.length 0 lo) := by
  refine ⟨(ns.drop (HT.sIx ns.length 0 lo)).take (HT.sIx ns.length ns.length hi - HT.sIx ns.length 0 lo), ?_, by rw [List.length_take, List.length_drop]⟩
  unfold cutP
  rw [List.length_map, List.map_take, List.map_drop]
end DN
end
section
set_option Elab.async false
set_option linter.all false
set_option maxRecDepth 100000
set_option maxHeartbeats 4000000
namespace L2
open PySem PySem.Spec PyProof.Rows
section
variable {X : Cx} {tg : Expr}
end
end L2
namespace DN
open PySem PySem.Spec PyProof.Rows L2
def sgP (x : Str) : List PV := x.cps.toList.map fun c => PV.str ⟨#[c]⟩
section
variable {X : Cx} {G : Pg} {e a b o tg iter : Expr} {es : List Expr} {body : List Stmt} {da db dk dv : DP} {d : DA} {ds : DS} {pos pos' p apos : Pos} {x m : Str} {k i : Nat} {ms : List Bool}
def dItemsS (d : DP) : DA := fun ps => (d ps).bind fun x => match x with | .str y => .ok (sgP y) | _ => .bad
@[simp] theorem e_itemsS (d : DP) (ps : PSt) (y : Str) (h : d ps = .ok (.str y)) : dItemsS d ps = .ok (sgP y) := by unfold dItemsS; rw [h]; rfl
def inK (ks : List Key) (k : Key) : Bool := ks.any fun k' => decide (k' = k)
def putXs {α : Type} (ks : List Key) (xs : List α) (k : Key) (w : α) : List α := if inK ks k = true then List.zipWith (fun k' x => if k' = k then w else x) ks xs else xs ++ [w]
theorem reps_zw {K : PySem.W.Frag} {H : Hp} {A : Av} {k : Key} {w : PV} {v : V} (r : Rep K G H A w v) : ∀ {ks : List Key} {ws : List PV} {vs : List V}, Reps K G H A ws vs → Reps K G H A (List.zipWith (fun k' x => if k' = k then w else x) ks ws) (List.zipWith (fun k' x => if k' = k then v else x) ks vs)
  | [], ws, vs, h => rfl
  | a :: ks, [], vs, h => by have h : vs = [] := h; subst h; rfl
  | a :: ks, x :: ws, vs, h => by
    obtain ⟨u, rr, rfl, h1, h2⟩ := h
    refine ⟨_, _, rfl, ?_, reps_zw r h2⟩
    by_cases e : a = k
    · simp only [if_pos e]; exact r
    · simp only [if_neg e]; exact h1
theorem Reps.put {K : PySem.W.Frag} {H : Hp} {A : Av} {ks : List Key} {k : Key} {w : PV} {v : V} {ws : List PV} {vs : List V} (h : Reps K G H A ws vs) (r : Rep K G H A w v) : Reps K G H A (putXs ks ws k w) (putXs ks vs k v) := by
  unfold putXs
  split
  · exact reps_zw r h
  · exact h.snoc r
end
end DN
end
section
set_option Elab.async false
set_option linter.all false
set_option maxRecDepth 100000
set_option maxHeartbeats 4000000
namespace DN
open PySem PySem.Spec PyProof.Rows L2
section
variable {K : PySem.W.Frag} {G : Pg} {H : Hp} {A : Av}
end
section
variable {X : Cx} {G : Pg} {e a b o i f value : Expr} {es : List Expr} {da db dd dk dv : DP} {d : DA} {dm : DM} {pos pos' p apos cpos tpos : Pos} {x : Str} {j : Nat}
end
end DN
end
section
set_option Elab.async false
set_option linter.all false
set_option maxRecDepth 100000
set_option maxHeartbeats 4000000
namespace L2
open PySem PySem.Spec PyProof.Rows
/-! ### enumerate of a list -/
def Ite (K : PySem.W.Frag) (a : Addr) : It :=
  ⟨fun i H => ∃ xs x, SqL K H a xs ∧ xs[i]? = some x, fun i H x H' => ∃ p y, H p = none ∧ x = .ref p ∧ H' = upd H p (.tup [.int i, y]) ∧ ∀ xs, SqL K H a xs → xs[i]? = some y, fun i H => ∃ xs, SqL K H a xs ∧ xs.length ≤ i⟩
/-- two records of ours have turned, and a new object is laid and tracked -/
theorem Inv.turned2 {X : Cx} {pins : List (Addr × Obj)} {σ : L2.St} {H : Hp} {s : Shared} {h' : Heap} {t' : Nat} {it e p : Addr} {w : HO} (I : Inv X pins σ H s) (k : ∀ b o, b ≠ it → b ≠ e → s.heap.get? b = some o → h'.get? b = some o) (f : FpOk X pins H it) (g : FpOk X pins H e)
    (hp : s.heap.objs.size ≤ p) (new : ObjOk X.prog X.w (upd H p w) h' p w) : Inv X pins σ (upd H p w) { s with heap := h', toks := t' } := by
  obtain ⟨f0, f1, f2, f3, f4, f5⟩ := f
  obtain ⟨g0, g1, g2, g3, g4, g5⟩ := g
  have hn : H p = none := I.hok.fresh hp
  have nit : ∀ b u, H b = some u → b ≠ it := fun b u q z => by rw [z, f0] at q; cases q
  have nie : ∀ b u, H b = some u → b ≠ e := fun b u q z => by rw [z, g0] at q; cases q
  have old : ∀ b o, s.heap.get? b = some o → b ≠ p := fun b o q => Nat.ne_of_lt (Nat.lt_of_lt_of_le (Heap.lt_size q) hp)
  refine I.step (g' := s.gens) (d' := s.drawn) (ch := [it, e]) (fun b hb => ?_) (fun b o _ _ hc q _ => k b o (fun z => hc (by simp [z])) (fun z => hc (by simp [z])) q) (fun b o _ _ hc q _ => ⟨o.slots, k b o (fun z => hc (by simp [z])) (fun z => hc (by simp [z])) q⟩) (fun b o _ q n => by rw [upd_ne (old b o q)]; exact n)
    (fun b o hc q => ⟨o, k b o (fun z => hc (by simp [z])) (fun z => hc (by simp [z])) q⟩) (fun b xs q => by rw [upd_ne (ne_of_none q hn)]; exact q) (fun b o u q => by rw [upd_ne (ne_of_none q hn)]; exact q) (fun b ps q => ⟨#[], by rw [upd_ne (ne_of_none q hn), q]; simp⟩) (fun m hm => ?_) (fun b u q => ?_) I.bare
  · have q : b = it ∨ b = e := by simpa using hb
    rcases q with rfl | rfl
    · exact ⟨f3, f1, f4, f5⟩
    · exact ⟨g3, g1, g4, g5⟩
  · obtain ⟨o, es, ep, ho, r⟩ := hm
    exact ⟨o, es, ep, k _ o (Ne.symm f1) (Ne.symm g1) ho, r⟩
  · by_cases hb : b = p
    · subst hb
      rw [upd_same] at q
      cases q
      exact new
    · rw [upd_ne hb] at q
      refine (I.hok b u q).stay (fun c v hc r => k c v ?_ ?_ r) (fun c r => by rw [upd_ne (ne_of_none r hn)]; exact r) fun c xs r => by rw [upd_ne (ne_of_none r hn)]; exact r
      · rcases hc with z | z
        · rw [z]; exact nit b u q
        · exact nit c _ z
      · rcases hc with z | z
        · rw [z]; exact nie b u q
        · exact nie c _ z
theorem turn_enum {P : Program} {w : World} {K : PySem.W.Frag} {elts : List Expr} {x1} {tpos : Pos} (a e it : Addr) (hne : e ≠ it) :
    Turn P w K (.Tuple elts x1 tpos) (Ite K a) [it, e] e (fun i h => (∃ old, IsEnum h e it i old) ∧ h.IsListIter it a i) where
  mem := by simp
  obj := fun i h st b hb => by
    obtain ⟨⟨old, he⟩, o, e1, c, d⟩ := st
    have q : b = it ∨ b = e := by simpa using hb
    rcases q with rfl | rfl
    · exact ⟨o, e1, fun v z => by rw [d] at z; cases z⟩
    · exact ⟨_, he, fun v z => by
        have z' : Data.fields _ = Data.cell v := z
        cases z'⟩
  keep := fun i h h' ⟨⟨old, he⟩, st⟩ k => ⟨⟨old, k e (by simp) _ he⟩, st.at fun o e => k it (by simp) o e⟩
  item := by
    intro X hP hw hK hc i pins s σ H E I hf st hg
    subst hP hw hK
    obtain ⟨⟨old, he⟩, st⟩ := st
    obtain ⟨xs, x, hq, hx⟩ := hg
    obtain ⟨its, rv, p, hz⟩ := I.list hq
    obtain ⟨u, hu, ru⟩ := rv.get hx
    have fi := hf it (by simp)
    have fe := hf e (by simp)
    refine wpAny_pyNext_enum_item he st p.isList (x := u) (by simpa using hu) hne fun h' he' st' ht hsz kk => ?_
    refine ⟨_, rfl, wpAny_letOwnedTupleGo_enum (s := { s with heap := h', toks := s.toks + 1 }) he' fun h2 he2 hs2 => ?_⟩
    have hel : e < s.heap.objs.size := Heap.lt_size he
    have hil : it < s.heap.objs.size := let ⟨o, e1, _⟩ := st; Heap.lt_size e1
    have hfr : H s.heap.objs.size = none := I.hok.fresh (Nat.le_refl _)
    have k2 : ∀ b o, b ≠ it → b ≠ e → s.heap.get? b = some o → h2.get? b = some o := fun b o hbi hbe q => (hs2.2 b hbe).trans (kk b o hbe hbi q)
    have hT : h2.get? s.heap.objs.size = some { cls := .type "tuple", data := .seq #[.int i s.toks, u] } := (hs2.2 _ (Nat.ne_of_gt hel)).trans ht
    have st2 : h2.IsListIter it a (i + 1) := st'.at fun o q => (hs2.2 it (Ne.symm hne)).trans q
    have I2 : Inv X pins σ (upd H s.heap.objs.size (.tup [.int i, x])) { s with heap := h2, toks := s.toks + 1 } :=
      I.turned2 (t' := s.toks + 1) k2 fi fe (Nat.le_refl _) ⟨by show 2 ≤ sizeLine; decide, [.int i s.toks, u], .cons ⟨_, rfl⟩ (.cons ru .nil), ⟨_, hT, rfl, _, rfl⟩⟩
    refine ⟨.ref s.heap.objs.size, upd H s.heap.objs.size (.tup [.int i, x]), I2, rfl, ⟨_, x, hfr, rfl, rfl, fun ys hy => by rw [I.list_inj hy hq]; exact hx⟩, ⟨⟨_, he2⟩, st2⟩, fun b hb => ?_⟩
    have q : b = it ∨ b = e := by simpa using hb
    rcases q with rfl | rfl
    · rw [upd_ne (Nat.ne_of_lt hil)]; exact fi.1
    · rw [upd_ne (Nat.ne_of_lt hel)]; exact fe.1
  done := by
    intro X hP hw hK hc i pins s σ H E I hf st hg
    subst hP hw hK
    obtain ⟨⟨old, he⟩, st⟩ := st
    obtain ⟨xs, hq, hx⟩ := hg
    obtain ⟨its, rv, p, hz⟩ := I.list hq
    obtain ⟨f0, f1, f2, f3, f4, f5⟩ := hf it (by simp)
    have hl := rv.length
    exact wpAny_pyNext_enum_end (I.ok.hd hc) he st p.isList (by simp; omega) fun h' eb => ⟨rfl, I.turned (t' := s.toks) (fun b o hb e => eb b o hb e) f0 f1 f3 f4 f5⟩
  self := fun _ _ _ _ _ ⟨⟨_, he⟩, _⟩ h => wpAny_pyIter_enum he h
def iEnum (K : PySem.W.Frag) (ta : TA) : TI := fun σ H R => ta σ H fun vs H1 => ∃ a xs, vs = [.ref a] ∧ SqL K H1 a xs ∧ R (Ite K a) H1
theorem pi_enum {X : Cx} {elts : List Expr} {x1} {tpos : Pos} {a : Expr} {ta : TA} {p pos : Pos} (hg : Gl X "enumerate") (hm : X.mg "enumerate" = none) (ha : PA X [a] ta) (hs : starEach [a] X.env = [(false, eval a X.env)] := by rfl) :
    PI X (.Tuple elts x1 tpos) (.Call (.Name "enumerate" p) [a] [] pos) (iEnum X.K ta) := by
  intro pins s σ H R I h
  refine Call_ (ld_blt I hg hm boot_enumerate (PyProof.Rows.callWith_type1 (thn (ha pos pins s σ H _ I h) fun us s1 ⟨vs, H1, I1, r1, q1⟩ => ?_) hs rfl))
  obtain ⟨a, xs, e, hq, q⟩ := q1
  subst e
  obtain ⟨u, rfl, ru⟩ := r1.one
  obtain rfl : u = Value.ref a := ru
  obtain ⟨its, rv, pl, hz⟩ := I1.list hq
  refine call_enumerate_list pl.isList fun h' he st hsz kk => ?_
  refine wpAny_pyIter_enum (s := { s1 with heap := h' }) he ?_
  refine ⟨s1.heap.objs.size + 1, [s1.heap.objs.size, s1.heap.objs.size + 1], _, _, H1, rfl, I1.kept (t' := s1.toks) kk, turn_enum a _ _ (Nat.succ_ne_self _), ⟨⟨_, he⟩, st⟩, fun b hb => ?_, q⟩
  have e : b = s1.heap.objs.size ∨ b = s1.heap.objs.size + 1 := by simpa using hb
  rcases e with rfl | rfl
  · exact I1.fpOk (Nat.le_refl _) (I1.hok.fresh (Nat.le_refl _))
  · exact I1.fpOk (Nat.le_succ _) (I1.hok.fresh (Nat.le_succ _))
end L2
namespace DN
open PySem PySem.Spec PyProof.Rows L2
section
variable {X : Cx} {G : Pg} {e a b o tg : Expr} {es : List Expr} {da db : DP} {d : DA} {dm : DM} {ds du : DS} {pos p apos cpos : Pos} {x m : Str} {k i : Nat} {ms : List Bool}
/-! ### for k, x in enumerate(xs) -/
def enumFrom : Nat → List PV → List PV
  | _, [] => []
  | k, w :: ws => .tup [.int (k : Int), w] :: enumFrom (k + 1) ws
theorem enum_len : ∀ (k : Nat) (ws : List PV), (enumFrom k ws).length = ws.length
  | _, [] => rfl
  | k, w :: ws => by simp [enumFrom, enum_len (k + 1) ws]
theorem enum_at : ∀ (k : Nat) (ws : List PV) (i : Nat), (enumFrom k ws)[i]? = (ws[i]?).map fun w => .tup [.int ((k + i : Nat) : Int), w]
  | _, [], i => by simp [enumFrom]
  | k, w :: ws, 0 => by simp [enumFrom]
  | k, w :: ws, i + 1 => by
    simp only [enumFrom, List.getElem?_cons_succ]
    rw [enum_at (k + 1) ws i]
    congr 3
    funext w
    congr 3
    omega
def dEnum (d : DP) : DA := fun ps => (d ps).bind fun x => match x with | .lst xs => .ok (enumFrom 0 xs) | _ => .bad
def sForE (d : DP) (g : DG) (body : DS) : DS := sFor (dEnum d) g body
theorem s_forE {elts : List Expr} {x1} {tpos : Pos} {ea : Expr} {body : List Stmt} {g : DG} (hp : PassesOwn (model X.prog X.w) X.A X.env X.xe) (hc : X.calm = true) (hgl : Gl X "enumerate") (hm : X.mg "enumerate" = none) (ha : JP X G ea da) (hg : JG X G (.Tuple elts x1 tpos) g) (hb : JSs X G body ds)
    (hs1 : starEach [ea] X.env = [(false, eval ea X.env)] := by rfl) (hs : ∀ x, foldedSetIterable (.Call (.Name "enumerate" p) [ea] [] cpos) X.env x = pure x := by intro _; rfl) : JS X G (.For (.Tuple elts x1 tpos) (.Call (.Name "enumerate" p) [ea] [] cpos) body [] pos) (sForE da g ds) :=
  impS (ps_for hp hc (pi_enum hgl hm (pa_cons ha pa_nil hs1) hs1) hg hb hs) fun D σ H ⟨c, ow, ps, R, q⟩ => by
  obtain ⟨es, e1, q⟩ := ends_st q
  obtain ⟨w, e2, e1⟩ := bind_ok e1
  refine ⟨c, ow, ps, w, R, e2, fun v H1 s1 r1 => ?_⟩
  split at e1
  · rename_i ws
    cases e1
    obtain ⟨a, vs, rfl, rd, rs⟩ := r1
    refine ⟨a, vs, rfl, rd.sq, ?_⟩
    refine ⟨fun i m σ' H' => ∃ ow' ps', m = ws.length - i ∧ i ≤ ws.length ∧ RepS X.K G c H' ow' ps' σ' ∧ Kp X.K G H1 (av c ow) H' (av c ow') ∧ EndsAt X.K G c H' (av c ow') D (forD g ds ((enumFrom 0 ws).drop i) ps'),
      ⟨_, ow, ps, rfl, Nat.zero_le _, R.grow s1, Kp.of_same (Same.refl _), q.mono (Kp.of_same s1)⟩, ?_⟩
    rintro i m σ' H' ⟨ow', ps', rfl, hi', R', k', q'⟩
    have sq' := (k'.rdL rd).sq
    rcases Nat.lt_or_ge i ws.length with hlt | hge
    · right
      have hlt' : i < (enumFrom 0 ws).length := by rw [enum_len]; exact hlt
      have he := enum_at 0 ws i
      rw [List.getElem?_eq_getElem hlt', List.getElem?_eq_getElem hlt] at he
      have he : (enumFrom 0 ws)[i] = .tup [.int ((i : Nat) : Int), ws[i]] := by
        have := Option.some.inj he
        rw [this]; simp
      rw [List.drop_eq_getElem_cons hlt', he] at q'
      obtain ⟨v, hv, rv⟩ := (k'.reps rs).get (List.getElem?_eq_getElem hlt)
      refine ⟨⟨vs, v, sq', hv⟩, _, fun _ _ h => h, fun y H2 hyl => ?_⟩
      obtain ⟨pp, y', hpp, rfl, rfl, hy'⟩ := hyl
      have ey : y' = v := Option.some.inj ((hy' vs sq').symm.trans hv)
      subst ey
      have sp := same_upd hpp (.tup [V.int (i : Int), y'])
      obtain ⟨ps1, c1, q'⟩ := ends_st q'
      have rT : Rep X.K G (upd H' pp (.tup [V.int (i : Int), y'])) (av c ow') (.tup [.int ((i : Nat) : Int), ws[i]]) (.ref pp) :=
        ⟨pp, _, rfl, SqT.of upd_same, ⟨_, _, rfl, rfl, _, _, rfl, rv.same sp, rfl⟩⟩
      refine ⟨c, ow', ps', _, ps1, R'.grow sp, rT, c1, fun σ3 ow3 R3 wk3 => ?_⟩
      have k3 : Kp X.K G H1 (av c ow) (upd H' pp (.tup [V.int (i : Int), y'])) (av c ow3) := (k'.trans (Kp.of_same sp)).trans (Kp.weak wk3)
      have q3 := (q'.mono (Kp.of_same (K := X.K) (G := G) sp)).mono (Kp.weak (K := X.K) (G := G) wk3)
      refine ⟨c, ow3, ps1, R3, ?_⟩
      cases er : ds ps1 with
      | nx ps2 =>
        rw [er] at q3
        exact fun σ4 H4 ow4 R4 k4 => ⟨ws.length - (i + 1), by omega, ow4, ps2, rfl, hlt, R4, k3.trans k4, EndsAt.mono q3 k4⟩
      | cnt ps2 =>
        rw [er] at q3
        exact fun σ4 H4 ow4 R4 k4 => ⟨ws.length - (i + 1), by omega, ow4, ps2, rfl, hlt, R4, k3.trans k4, EndsAt.mono q3 k4⟩
      | brk ps2 => rw [er] at q3; exact q3
      | ret w => rw [er] at q3; exact q3
      | retn xs => rw [er] at q3; exact q3
      | bad => rw [er] at q3; exact q3
      | exc c => rw [er] at q3; exact q3
    · left
      have : i = ws.length := Nat.le_antisymm hi' hge
      subst this
      rw [List.drop_eq_nil_of_le (by rw [enum_len]; exact Nat.le_refl _)] at q'
      exact ⟨⟨vs, sq', by rw [← rs.len]; exact Nat.le_refl _⟩, q' σ' H' ow' R' (Kp.of_same (Same.refl _))⟩
  · cases e1
/-! ### xs.extend(a new list), xs.clear(), xs.reverse() -/
def mExt (i : Nat) (d : DA) : DM := fun ps => match ps[i]? with
  | some (.own (.lst xs)) => (d ps).bind fun ys => if xs.length + ys.length ≤ sizeLine then .ok (.non, ps.set i (.own (.lst (xs ++ ys)))) else .bad
  | _ => .bad
theorem m_ext (i : Nat) (he : JN X G e d) (hline : (apos.endLine == cpos.line) = true := by rfl) (hN : X.N[i]? = some x := by rfl) (hv : Vis X.env.scope x := by first | exact Or.inl rfl | exact Or.inr (Or.inl rfl) | exact Or.inr (Or.inr rfl)) (hd : (x == ("__debug__" : Str)) = false := by decide)
    (hcd : (x == ("__classdict__" : Str)) = false := by decide) (hst : starEach [e] X.env = (false, eval e X.env) :: starEach [] X.env := by rfl) (hbase : attributeBase (.Name x pos) "extend" X.env (eval (.Name x pos) X.env) = eval (.Name x pos) X.env := by rfl)
    (hpl : (backTo cpos (starEach ([] : List Expr) X.env)).any (·.1) = false := by rfl)
    (hfew : ((backTo cpos (starEach [e] X.env)).all (fun x => !x.1) && (backToKw cpos (keywordEach [] X.env)).all (fun x => x.1.isSome) && decide (([e] : List Expr).length + ([] : List Keyword).length + (if ([] : List Keyword).isEmpty then 0 else 1) < 30)) = true := by rfl) :
    JM X G (.Call (.Attribute (.Name x pos) "extend" apos) [e] [] cpos) (mExt i d) :=
  imp (pe_bm PySem.F.plainAttrs_list PySem.F.slot_list_extend PySem.F.type_list_extend mt_extend (pe_var hN hv hd hcd) (pa_cons he pa_nil hst) hbase hfew hline hst hpl) fun σ H Q ⟨c, ow, ps, w, ps', R, e, q⟩ => by
    unfold mExt at e
    split at e
    · rename_i xs hx
      obtain ⟨ys, e1, e⟩ := bind_ok e
      split at e
      · rename_i hl
        cases e
        obtain ⟨p0, e2, e3, vs, hH, rs⟩ := R.getO hx
        refine ⟨.ref p0, e3, .inl ⟨rfl, _, SqL.of hH⟩, c, ow, ps, ys, R, e1, fun p us H1 s1 hp hu ru => ?_⟩
        have R1 := R.grow s1
        have hne : p ≠ p0 := fun z => by rw [z, hH] at hp; cases hp
        have hH1 := s1 _ _ hH
        have mD : Mt (HO.lst vs) := And.intro (fun _ z => by cases z) (fun _ _ z => by cases z)
        have k0 : Kp X.K G H1 (av c ow) (upd H1 p0 (.lst (vs ++ us))) (av c ow) := Kp.own (.inr ⟨i, e2⟩) hH1 mD
        have ru' : Reps X.K G H1 (av c ow) ys us := (Kp.weak fun a z => Or.inl z).reps ru
        have := R1.chg (y := .lst (xs ++ ys)) (u := .lst (vs ++ us)) hx e2 ⟨_, upd_same, k0.reps ((rs.same s1).app ru')⟩
        exact ⟨p0, p, vs, us, rfl, rfl, hH1, hu, by rw [← rs.len, ← ru.len]; exact hl, q .non _ ow this.1 ((Kp.of_same s1).trans this.2) rfl⟩
      · cases e
    · cases e
def mClr (i : Nat) : DM := fun ps => match ps[i]? with
  | some (.own (.lst _)) => .ok (.non, ps.set i (.own (.lst [])))
  | _ => .bad
theorem m_clr (i : Nat) (hline : (apos.endLine == cpos.line) = true := by rfl) (hN : X.N[i]? = some x := by rfl) (hv : Vis X.env.scope x := by first | exact Or.inl rfl | exact Or.inr (Or.inl rfl) | exact Or.inr (Or.inr rfl)) (hd : (x == ("__debug__" : Str)) = false := by decide)
    (hcd : (x == ("__classdict__" : Str)) = false := by decide) (hbase : attributeBase (.Name x pos) "clear" X.env (eval (.Name x pos) X.env) = eval (.Name x pos) X.env := by rfl) : JM X G (.Call (.Attribute (.Name x pos) "clear" apos) [] [] cpos) (mClr i) :=
  imp (pe_bm0 PySem.F.plainAttrs_list PySem.F.slot_list_clear PySem.F.type_list_clear mt_clear (pe_var hN hv hd hcd) hbase hline) fun σ H Q ⟨c, ow, ps, w, ps', R, e, q⟩ => by
    unfold mClr at e
    split at e
    · rename_i xs hx
      cases e
      obtain ⟨p, e1, e2, vs, hH, rs⟩ := R.getO hx
      have := R.chg (y := .lst []) (u := .lst []) hx e1 ⟨_, upd_same, rfl⟩
      exact ⟨.ref p, e2, .inl ⟨rfl, _, SqL.of hH⟩, p, vs, rfl, rfl, hH, q .non _ ow this.1 this.2 rfl⟩
    · cases e
theorem Reps.reverse {K : PySem.W.Frag} {H : Hp} {A : Av} : ∀ {ws : List PV} {vs : List V}, Reps K G H A ws vs → Reps K G H A ws.reverse vs.reverse
  | [], vs, h => by have h : vs = [] := h; subst h; rfl
  | w :: ws, vs, h => by
    obtain ⟨v, r, rfl, h1, h2⟩ := h
    rw [List.reverse_cons, List.reverse_cons]
    exact (Reps.reverse h2).snoc h1
def mRev (i : Nat) : DM := fun ps => match ps[i]? with
  | some (.own (.lst xs)) => .ok (.non, ps.set i (.own (.lst xs.reverse)))
  | _ => .bad
/-! ### tuples: a slice, + -/
def dCutT (d : DP) (dl dh : PSt → Rx (Option Int)) : DP := fun ps => (d ps).bind fun x => (dl ps).bind fun lo => (dh ps).bind fun hi => match x with
  | .tup xs => if HT.sIx xs.length 0 lo = 0 ∧ HT.sIx xs.length xs.length hi = xs.length then .bad else .ok (.tup (cutP xs lo hi))
  | _ => .bad
theorem p_cutT {lo hi : Option Expr} {dl dh : PSt → Rx (Option Int)} {p2 : Pos} (he : JP X G e da) (hl : JO X G lo dl) (hh : JO X G hi dh) : JP X G (.Subscript e (.Slice lo hi none p2) pos) (dCutT da dl dh) := imp (pe_slice sl_tup he hl hh) fun σ H Q ⟨c, ow, ps, ws, R, e, q⟩ => by
  obtain ⟨x, e1, e⟩ := bind_ok e
  obtain ⟨l, e2, e⟩ := bind_ok e
  obtain ⟨h, e3, e⟩ := bind_ok e
  refine ⟨c, ow, ps, x, R, e1, fun v H1 s1 r1 => ⟨c, ow, ps, l, R.grow s1, e2, fun H2 s2 => ⟨c, ow, ps, h, (R.grow s1).grow s2, e3, fun H3 s3 => ?_⟩⟩⟩
  split at e
  · split at e
    · cases e
    · rename_i xs hw
      cases e
      obtain ⟨a, vs, e4, sq, rs⟩ := (r1.same s2).same s3
      refine ⟨a, vs, e4, sq, by rw [← rs.len]; exact hw, fun p hp => ?_⟩
      have sp := same_upd hp (.tup (cutV vs l h))
      refine q _ _ (((s1.trans s2).trans s3).trans sp) ⟨p, _, rfl, SqT.of upd_same, ?_⟩
      unfold cutP cutV
      rw [rs.len]
      exact ((rs.drop _).take _).same sp
  · cases e
def fCatT : PV → PV → Rx PV
  | .tup xs, .tup ys => if xs ≠ [] ∧ xs.length + ys.length ≤ sizeLine then .ok (.tup (xs ++ ys)) else .bad
  | _, _ => .bad
theorem p_catT (ha : JP X G a da) (hb : JP X G b db) : JP X G (.BinOp a .Add b pos) (d2 fCatT da db) := imp (pe_op op_catT ha hb) fun σ H Q ⟨c, ow, ps, w, R, e, q⟩ => by
  obtain ⟨x, e1, f⟩ := bind_ok e
  clear e
  obtain ⟨y, e2, e⟩ := bind_ok f
  clear f
  refine ⟨c, ow, ps, x, R, e1, fun v H1 s1 r1 => ⟨c, ow, ps, y, R.grow s1, e2, fun u H2 s2 r2 => ?_⟩⟩
  cases x <;> try cases e
  cases y <;> try cases e
  rename_i xs ys
  have e : (if xs ≠ [] ∧ xs.length + ys.length ≤ sizeLine then Rx.ok (PV.tup (xs ++ ys)) else .bad) = .ok w := e
  split at e
  · rename_i hl
    cases e
    obtain ⟨l, vs, rfl, sq, rs⟩ := r1.same s2
    obtain ⟨m, us, rfl, sq', rs'⟩ := r2
    refine ⟨l, m, vs, us, rfl, rfl, sq, sq', fun z => ?_, by rw [← rs.len, ← rs'.len]; exact hl.2, fun z => ?_, fun z p hp => ?_⟩
    · have := rs.len
      rw [z] at this
      exact hl.1 (List.length_eq_zero_iff.mp (by simpa using this))
    · subst z
      have hy : ys = [] := by
        have := rs'.len
        exact List.length_eq_zero_iff.mp (by simpa using this)
      subst hy
      exact q _ _ (s1.trans s2) ⟨l, vs, rfl, sq, by rw [List.append_nil]; exact rs⟩
    · have sp := same_upd hp (.tup (vs ++ us))
      exact q _ _ ((s1.trans s2).trans sp) ⟨p, _, rfl, SqT.of upd_same, (rs.app rs').same sp⟩
  · cases e
/-! ### a new list times an int -/
def dRep (d : DA) (b : DP) : DA := fun ps => (d ps).bind fun xs => (b ps).bind fun y => match y with
  | .int k => if 0 ≤ k ∧ k < 2 ^ 62 ∧ xs.length * k.toNat ≤ sizeLine then .ok (List.replicate k.toNat xs).flatten else .bad
  | _ => .bad
theorem Reps.rep {K : PySem.W.Frag} {H : Hp} {A : Av} {ws : List PV} {vs : List V} (h : Reps K G H A ws vs) : ∀ n : Nat, Reps K G H A (List.replicate n ws).flatten (List.replicate n vs).flatten
  | 0 => rfl
  | n + 1 => by
    rw [List.replicate_succ, List.flatten_cons, List.replicate_succ, List.flatten_cons]
    exact h.app (Reps.rep h n)
/-! ### a def that hands out a new list -/
def dCallW (g : List PV → Rx PV) (d : DA) : DA := fun ps => (d ps).bind fun ws => (g ws).bind fun w => match w with | .lst xs => .ok xs | _ => .bad
theorem n_fn {g : List PV → Rx PV} (h : FnAt X.prog X.w X.K X.mg X.base CX0 k x (spN X.K G ms g)) (hr : Room k X.A) (hg : Gl X x) (ha : JA X G ms (e :: es) d) (hdb : (x == ("__debug__" : Str)) = false := by decide)
    (he : starEach (e :: es) X.env = (false, eval e X.env) :: starEach es X.env := by rfl) (hpl : (backTo pos (starEach es X.env)).any (·.1) = false := by rfl) : JN X G (.Call (.Name x p) (e :: es) [] pos) (dCallW g d) :=
  imp (pe_fn (E := E0) h hr hg pass0 ha hdb he hpl) fun σ H Q ⟨c, ow, ps, xs, R, e, q⟩ => by
    obtain ⟨ws, e1, e⟩ := bind_ok e
    obtain ⟨w, e2, e⟩ := bind_ok e
    split at e
    · rename_i ys
      cases e
      exact ⟨c, ow, ps, ws, R, e1, fun vs H' s r => ⟨_, ws, _, (R.grow s).used, r, e2, fun p us H2 s2 hp hv rs => q p us H2 (s.trans s2) (s.free hp) hv rs⟩⟩
    · cases e
/-! ### equations -/
variable (ps : PSt)
@[simp] theorem e_ext : mExt i d ps = match ps[i]? with
  | some (.own (.lst xs)) => (d ps).bind fun ys => if xs.length + ys.length ≤ sizeLine then .ok (.non, ps.set i (.own (.lst (xs ++ ys)))) else .bad
  | _ => .bad := rfl
@[simp] theorem e_clr : mClr i ps = match ps[i]? with
  | some (.own (.lst _)) => .ok (.non, ps.set i (.own (.lst [])))
  | _ => .bad := rfl
@[simp] theorem e_rev : mRev i ps = match ps[i]? with
  | some (.own (.lst xs)) => .ok (.non, ps.set i (.own (.lst xs.reverse)))
  | _ => .bad := rfl
@[simp] theorem e_forE (g : DG) : sForE da g ds ps = (dEnum da ps).st fun ws => forD g ds ws ps := rfl
@[simp] theorem e_enum : dEnum da ps = (da ps).bind fun x => match x with | .lst xs => .ok (enumFrom 0 xs) | _ => .bad := rfl
@[simp] theorem e_cutT (dl dh : PSt → Rx (Option Int)) : dCutT da dl dh ps = (da ps).bind fun x => (dl ps).bind fun lo => (dh ps).bind fun hi => match x with
  | .tup xs => if HT.sIx xs.length 0 lo = 0 ∧ HT.sIx xs.length xs.length hi = xs.length then .bad else .ok (.tup (cutP xs lo hi))
  | _ => .bad := rfl
@[simp] theorem e_catT (xs ys : List PV) : fCatT (.tup xs) (.tup ys) = if xs ≠ [] ∧ xs.length + ys.length ≤ sizeLine then .ok (.tup (xs ++ ys)) else .bad := rfl
@[simp] theorem e_rep : dRep d db ps = (d ps).bind fun xs => (db ps).bind fun y => match y with
  | .int k => if 0 ≤ k ∧ k < 2 ^ 62 ∧ xs.length * k.toNat ≤ sizeLine then .ok (List.replicate k.toNat xs).flatten else .bad
  | _ => .bad := rfl
@[simp] theorem e_callW (g : List PV → Rx PV) : dCallW g d ps = (d ps).bind fun ws => (g ws).bind fun w => match w with | .lst xs => .ok xs | _ => .bad := rfl
end
end DN
end
section
set_option Elab.async false
set_option linter.all false
set_option maxRecDepth 100000
set_option maxHeartbeats 4000000
namespace L2
open PySem PySem.Spec PyProof.Rows
section
variable {X : Cx} {pins : List (Addr × Obj)} {σ : St} {H : Hp} {s s1 : Shared} {scope : Scope} {own : List Str} {caps : List (Str × Nat)} {fp : List Addr}
def tCompS (own : List Str) (caps : List (Str × Nat)) (wi : TI) (g : TG) (tc : TT) (te : TE) (i : Nat) : TS := fun D σ H => wi σ H (CompGo own caps g tc te σ fun v H' => D.nx (σ.set i (some v)) H')
/-- x = [.. for ..], x a plain local name: the store goes ahead of the block's end -/
theorem ps_comp {elt tg iter : Expr} {ifs : List Expr} {pos spos px : Pos} {wi : TI} {g : TG} {tc : TT} {te : TE} {j : Nat} {x : Str} (hN : X.N.Nodup) (hi' : X.N[j]? = some x) (hx : Loc X.env.scope x) (S : CompScope X scope own caps) (hc : X.calm = true) (hi : PI X tg iter wi)
    (hg : ∀ C s₀ H₀ fp, PG (cxB X scope C (capN own caps) s₀ H₀ fp) tg g) (ht : ∀ C s₀ H₀ fp, PTs (cxB X scope C (capN own caps) s₀ H₀ fp) ifs tc) (he : ∀ C s₀ H₀ fp, PE (cxB X scope C (capN own caps) s₀ H₀ fp) elt te)
    (hsw : swapsWith (.ListComp elt [⟨tg, iter, ifs, 0⟩] scope pos) (some (.Name x px)) spos.line X.env = pure true := by rfl) (hs : ∀ x, foldedSetIterable iter X.env x = pure x := by intro _; rfl)
    (hf : X.fn x = true ∨ X.env.scope.names.lookup x = some .local := by first | exact .inl rfl | exact .inr rfl | assumption) : PS X (.Assign [.Name x px] (.ListComp elt [⟨tg, iter, ifs, 0⟩] scope pos) spos) (tCompS own caps wi g tc te j) := by
  intro pins s σ H D0 I h
  rw [exec_Assign_Name_used _ _ _ _ hsw]
  refine wpAny_bind (wpAny_standAt (wpAny_bind ?_))
  show wpAny _ X.A (do let _ ← comprehension (.ListComp elt [⟨tg, iter, ifs, 0⟩] scope pos) scope X.env _ (newList []) false (eval iter X.env) (some (assign (.Name x px) X.env))) _ _ s
  have hfree : ∀ y ∈ scope.names, y.2 = .free → ∃ c, X.env.cells.lookup y.1 = some c := fun y hy e => I.ok.has _ (S.frees.mem y hy e)
  refine wpAny_bind (wpAny_mono (wpAny_comprehension_free (Q := fun _ s' => SP X pins D0 .next s') (use := some (assign (.Name x px) X.env)) rfl hs (closureFor_eq hfree) S.kind S.names (thn (hi pins s σ H _ I h) fun v s1 h1 => thn h1 fun itv s2 h2 => ?_))
    (fun _ s' hq => wpAny_pure (wpAny_pure hq)) fun _ _ e => e)
  obtain ⟨it, fp, tn, J, H2, e, I2, T, st2, f2, hW⟩ := h2
  subst e
  -- the new list
  refine wpAny_newList ?_
  have hD : H2 s2.heap.objs.size = none := I2.fresh
  have I3 := I2.lnew (its := []) (ys := []) (t' := s2.toks) .nil (Nat.zero_le _)
  have k3 : ∀ b o, s2.heap.get? b = some o → (s2.heap.push { cls := .type "list", data := .seq ([] : List Value).toArray }).get? b = some o := fun b o q => Heap.get?_push_of_some _ q
  have st3 : tn 0 (s2.heap.push { cls := .type "list", data := .seq ([] : List Value).toArray }) := T.keep _ _ _ st2 fun b _ o q => k3 b o q
  have lt2 : ∀ b ∈ fp, b < s2.heap.objs.size := fun b hb => let ⟨o, q, _⟩ := T.obj _ _ st2 b hb; Heap.lt_size q
  have neD : ∀ b ∈ fp, b ≠ s2.heap.objs.size := fun b hb => Nat.ne_of_lt (lt2 b hb)
  have f3 : ∀ b ∈ fp, FpOk X pins (upd H2 s2.heap.objs.size (.lst [])) b := fun b hb => ⟨by rw [upd_ne (neD b hb)]; exact (f2 b hb).1, (f2 b hb).2⟩
  obtain ⟨W, ⟨m0, w0⟩, turn⟩ := hW _ hD
  generalize eD : s2.heap.objs.size = D at *
  generalize eH : upd H2 D (.lst []) = H3 at *
  generalize eh : s2.heap.push { cls := .type "list", data := .seq ([] : List Value).toArray } = hp3 at *
  have I3' : Inv X pins σ H3 { s2 with heap := hp3 } := I3
  -- the block's frame
  refine wpAny_newFunctionEnv S.nocell (fun y hy => by simp at hy) (fun h1 hns hsb => ?_) S.kind
  have kb : ∀ b o, hp3.get? b = some o → h1.get? b = some o := fun b o q => hsb.extBut b o (Nat.ne_of_lt (Heap.lt_size q)) (Heap.get?_push_of_some _ q)
  have lt3 : ∀ b ∈ fp, b < hp3.objs.size := fun b hb => let ⟨o, q, _⟩ := T.obj _ _ st3 b hb; Heap.lt_size q
  have IB := Inv.block (s := { s2 with heap := hp3 }) (h1 := h1) (tk := s2.toks) I3' S f3 hns kb lt3
  have stB : tn 0 h1 := T.keep _ _ _ st3 fun b _ o q => kb b o q
  have back : ∀ {σ' : St} {H' : Hp} {s' : Shared} {h' : Heap}, Inv (cxB X scope hp3.objs.size (capN own caps) { s2 with heap := hp3 } H3 fp) [] σ' H' s' → Heap.SameBut hp3.objs.size s'.heap h' → Inv X pins σ H' { s' with heap := h' } := fun {σ' H' s' h'} J hsm => by
    have nC : ∀ b o, H' b = some o → b ≠ hp3.objs.size := fun b o q z => by
      have := J.free
      rw [z] at q
      have q2 : H' hp3.objs.size = none := this
      rw [q] at q2; cases q2
    have hok : HOk X.prog X.w H' h' := fun b o q => (J.hok b o q).stay (fun c v hc z => hsm.extBut c v (by
      rcases hc with hc | hc
      · rw [hc]; exact nC b o q
      · exact nC c _ hc) z) (fun _ z => z) fun _ _ z => z
    have nb : ∀ b o, hp3.get? b = some o → b ≠ hp3.objs.size := fun b o q => Nat.ne_of_lt (Heap.lt_size q)
    have un : Un (frs X.stack) fp H3 H' hp3 h' := ⟨fun b o q n hb hx => hsm.extBut b o (nb b o q) (J.base.keep b o q n hb hx), fun b o q n hb hx => by
        obtain ⟨sl, z⟩ := J.base.slot b o q n hb hx
        exact ⟨sl, hsm.extBut b _ (nb b o q) z⟩, J.base.free, fun b o q hx => by
        obtain ⟨o', z⟩ := J.base.there b o q hx
        exact ⟨o', hsm.extBut b _ (nb b o q) z⟩, J.base.tups, J.base.frzs, J.base.tbls⟩
    have os := J.os
    have bare := J.bare
    obtain ⟨hh, g, d, t, os'⟩ := s'
    obtain rfl : os' = s2.os := os
    show Inv X pins σ H' { ({ s2 with heap := hp3 } : Shared) with heap := h', gens := g, drawn := d, toks := t }
    exact I3'.call (h' := h') (g' := g) (d' := d) (t' := t) (ch := fp) un hok bare fun b hb => ⟨(f3 b hb).2.2.2.1, (f3 b hb).2.1, (f3 b hb).2.2.2.2.1, (f3 b hb).2.2.2.2.2⟩
  have statB : ∀ {H' : Hp}, (∀ b ∈ fp, H' b = none) → ∀ b ∈ fp, FpOk (cxB X scope hp3.objs.size (capN own caps) { s2 with heap := hp3 } H3 fp) [] H' b := fun hn b hb =>
    ⟨hn b hb, Nat.ne_of_lt (lt3 b hb), fun z => (IB.ok.exfs b hb) z, .inl hb, (IB.ok.exf b hb).2, fun p hp => absurd (show p ∈ ([] : List (Addr × Obj)) from hp) (by simp)⟩
  have loop : ∀ s₃ : Shared, s₃ = { s2 with heap := h1, toks := s2.toks } → codeAny (model X.prog X.w) X.A (.compLoop (.ListComp elt [⟨tg, iter, ifs, 0⟩] scope pos) 0 (.ref it) (.ref D) (compEnvC scope (clos X.env scope.names []) hp3.objs.size X.env))
      (compPost (model X.prog X.w) X.A X.xe (some (assign (.Name x px) X.env)) (fun _ s' => SP X pins D0 .next s') (.ref D) hp3.objs.size) s₃ := by
    rintro s₃ rfl
    refine compLoop_any (fun n s' => ∃ i σ' H', Inv (cxB X scope hp3.objs.size (capN own caps) { s2 with heap := hp3 } H3 fp) [] σ' H' s' ∧ tn i s'.heap ∧ (∀ b ∈ fp, H' b = none) ∧ W i n σ' H') ?_ m0 ⟨0, capS own caps σ, H3, IB, stB, fun b hb => (f3 b hb).1, w0⟩
    rintro n s3 ⟨i, σ3, H4, I4, st4, fr4, w4⟩
    rcases turn i n σ3 H4 w4 with ⟨stop, qn⟩ | ⟨go, N, hN, step⟩
    · refine thn (T.done (cxB X scope hp3.objs.size (capN own caps) { s2 with heap := hp3 } H3 fp) rfl rfl rfl hc i [] s3 σ3 H4 _ I4 (statB fr4) st4 stop) fun r s4 ⟨hr, I5⟩ => ?_
      subst hr
      obtain ⟨m, hn, _⟩ := I5.loc
      have I6 : Inv X pins σ H4 s4 := back I5 ⟨rfl, fun _ _ => rfl⟩
      have neL : hp3.objs.size ≠ X.env.locals := fun z => by
        have := I3'.lt
        rw [← z] at this
        exact Nat.lt_irrefl _ this
      have neC : ∀ y c, X.env.cells.lookup y = some c → c ≠ hp3.objs.size := fun y c e z => by
        obtain ⟨v, q⟩ := I3'.cell y c e
        have := q.lt
        rw [z] at this
        exact Nat.lt_irrefl _ this
      have neP : ∀ p ∈ X.pn ++ pins, p.1 ≠ hp3.objs.size := fun p hp z => by
        have := Heap.lt_size (I3'.pin p hp).1
        rw [z] at this
        exact Nat.lt_irrefl _ this
      refine wpAny_assign_Name (store_ok2 I6 hN hi' hx (v := .ref D) rfl (fun s7 I7 ⟨a, sb, ha⟩ => ?_) hf)
      have na : hp3.objs.size ≠ a := fun z => by
        rcases ha with ha | ha
        · exact neL (z.trans ha)
        · exact neC _ _ ha z.symm
      refine ⟨m, hn.sameBut sb na, fun h' hsm => ⟨_, H4, ?_, qn⟩⟩
      exact I7.turned (t' := s7.toks) (it := hp3.objs.size) (fun b o hb e => hsm.extBut b o hb e) I5.free neL (.inr I3'.sz) neC neP
    · refine thn (T.item (cxB X scope hp3.objs.size (capN own caps) { s2 with heap := hp3 } H3 fp) rfl rfl rfl hc i [] s3 σ3 H4 (fun _ _ => False) I4 (statB fr4) st4 go) fun r s4 ⟨u, hr, h4⟩ => ?_
      subst hr
      refine thn h4 fun _ s5 ⟨x, H5, I5, r5, y5, st5, fr5⟩ => ?_
      have I5' := I5.pinned (statB fr5) (T.obj _ _ st5)
      refine thn (hg hp3.objs.size { s2 with heap := hp3 } H3 fp _ s5 σ3 H5 x u _ I5' r5 (step x H5 y5)) fun _ s6 ⟨σ6, H6, I6, q6⟩ => ?_
      refine thn (ht hp3.objs.size { s2 with heap := hp3 } H3 fp _ s6 σ6 H6 _ I6 q6) fun ok s7 ⟨H7, I7, q7⟩ => ?_
      have again : ∀ {σ7 : St} {H7 : Hp} {s7 : Shared}, Inv (cxB X scope hp3.objs.size (capN own caps) { s2 with heap := hp3 } H3 fp) ([] ++ pinsAt fp s5.heap) σ7 H7 s7 → N σ7 H7 → ∃ m, m < n ∧ ∃ i σ' H', Inv (cxB X scope hp3.objs.size (capN own caps) { s2 with heap := hp3 } H3 fp) [] σ' H' s7 ∧ tn i s7.heap ∧ (∀ b ∈ fp, H' b = none) ∧ W i m σ' H' := fun {σ7 H7 s7} I7 n7 => by
        obtain ⟨m', hm, w7⟩ := hN σ7 H7 n7
        refine ⟨m', hm, i + 1, σ7, H7, I7.unpinned, T.keep _ _ _ st5 fun b hb o e => (I7.pin (b, o) (List.mem_append_right _ (List.mem_append_right _ (mem_pinsAt hb e)))).1, fun b hb => ?_, w7⟩
        obtain ⟨o, e, d⟩ := T.obj _ _ st5 b hb
        exact (I7.pin (b, o) (List.mem_append_right _ (List.mem_append_right _ (mem_pinsAt hb e)))).2.1
      cases ok with
      | false =>
        rw [if_neg (by decide)]
        rw [if_neg (by decide)] at q7
        exact again I7 q7
      | true =>
        rw [if_pos rfl]
        rw [if_pos rfl] at q7
        refine thn (he hp3.objs.size { s2 with heap := hp3 } H3 fp _ s7 σ6 H7 _ I7 q7) fun y s8 ⟨yv, H8, I8, r8, ys, e8, z8, n8⟩ => ?_
        refine thn (mt_append (X := cxB X scope hp3.objs.size (capN own caps) { s2 with heap := hp3 } H3 fp) _ s8 σ6 H8 (.ref D) [yv] (.ref D) [y] (fun _ H' => N σ6 H') I8 rfl (.cons r8 .nil) ⟨D, ys, yv, rfl, rfl, e8, z8, n8⟩) fun _ s9 ⟨v9, H9, I9, _, q9⟩ => ?_
        exact again I9 q9
  exact codeAny_compStart_list (loop _ rfl) (T.self _ 0 _ _ _ stB (loop _ rfl))
end
end L2
namespace DN
open PySem PySem.Spec PyProof.Rows L2
section
variable {X : Cx} {G : Pg} {e a b o tg : Expr} {es : List Expr} {da db : DP} {d : DA} {dm : DM} {ds du : DS} {pos p apos cpos : Pos} {x m : Str} {k i : Nat} {ms : List Bool}
/-! ### x = [.. for ..] -/
theorem s_ownC {elt iter : Expr} {ifs : List Expr} {scope : Scope} {own : List Str} {caps : List (Str × Nat)} {di : DA} {g : DG} {dt : DT} {de : DP} (hN : X.N.Nodup) (hi' : X.N[i]? = some x) (hx : Loc X.env.scope x) (S : CompScope X scope own caps) (hc : X.calm = true) (hi : JIs X G tg iter di)
    (hg : ∀ C s₀ H₀ fp, JG (cxB X scope C (capN own caps) s₀ H₀ fp) G tg g) (ht : ∀ C s₀ H₀ fp, JTs (cxB X scope C (capN own caps) s₀ H₀ fp) G ifs dt) (he : ∀ C s₀ H₀ fp, JP (cxB X scope C (capN own caps) s₀ H₀ fp) G elt de)
    (gk : ∀ (w : PV) (ps ps' : PSt), g w ps = .ok ps' → ∀ (i : Nat) (x : Ow), ps'[i]? = some (Sl.own x) → ps[i]? = some (Sl.own x))
    (hsw : swapsWith (.ListComp elt [⟨tg, iter, ifs, 0⟩] scope cpos) (some (.Name x p)) pos.line X.env = pure true := by rfl) (hs : ∀ x, foldedSetIterable iter X.env x = pure x := by intro _; rfl)
    (hf : X.fn x = true ∨ X.env.scope.names.lookup x = some .local := by first | exact .inl rfl | exact .inr rfl | assumption) : JS X G (.Assign [.Name x p] (.ListComp elt [⟨tg, iter, ifs, 0⟩] scope cpos) pos) (sOwn i (dComp own caps di g dt de)) :=
  impS (ps_comp (wi := tPs X.K G di) (g := tG X.K G g) (tc := tPt X.K G dt) (te := tPv X.K G de) hN hi' hx S hc hi hg ht he hsw hs hf) fun D σ H ⟨c, ow, ps, R, q⟩ => by
    obtain ⟨ws, e1, q⟩ := ends_st q
    split at q
    · rename_i hl
      exact comp_go gk ⟨c, ow, ps, ws, R, e1, fun p vs H' s hp hv r => q _ _ _ (R.setO hl s hp ⟨vs, hv, r⟩) (Kp.take hp s av_on)⟩
    · exact q.elim
theorem s_setC {elt iter : Expr} {ifs : List Expr} {scope : Scope} {own : List Str} {caps : List (Str × Nat)} {di : DA} {g : DG} {dt : DT} {de : DP} (hN : X.N.Nodup) (hi' : X.N[i]? = some x) (hx : Loc X.env.scope x) (S : CompScope X scope own caps) (hc : X.calm = true) (hi : JIs X G tg iter di)
    (hg : ∀ C s₀ H₀ fp, JG (cxB X scope C (capN own caps) s₀ H₀ fp) G tg g) (ht : ∀ C s₀ H₀ fp, JTs (cxB X scope C (capN own caps) s₀ H₀ fp) G ifs dt) (he : ∀ C s₀ H₀ fp, JP (cxB X scope C (capN own caps) s₀ H₀ fp) G elt de)
    (gk : ∀ (w : PV) (ps ps' : PSt), g w ps = .ok ps' → ∀ (i : Nat) (x : Ow), ps'[i]? = some (Sl.own x) → ps[i]? = some (Sl.own x))
    (hsw : swapsWith (.ListComp elt [⟨tg, iter, ifs, 0⟩] scope cpos) (some (.Name x p)) pos.line X.env = pure true := by rfl) (hs : ∀ x, foldedSetIterable iter X.env x = pure x := by intro _; rfl)
    (hf : X.fn x = true ∨ X.env.scope.names.lookup x = some .local := by first | exact .inl rfl | exact .inr rfl | assumption) : JS X G (.Assign [.Name x p] (.ListComp elt [⟨tg, iter, ifs, 0⟩] scope cpos) pos) (sSet i (dOfN (dComp own caps di g dt de))) :=
  impS (ps_comp (wi := tPs X.K G di) (g := tG X.K G g) (tc := tPt X.K G dt) (te := tPv X.K G de) hN hi' hx S hc hi hg ht he hsw hs hf) fun D σ H ⟨c, ow, ps, R, q⟩ => by
    obtain ⟨w, e0, q⟩ := ends_st q
    obtain ⟨ws, e1, e2⟩ := bind_ok e0
    cases e2
    exact comp_go gk ⟨c, ow, ps, ws, R, e1, fun p vs H' s hp hv r => q _ _ _ ((R.grow s).setV ⟨p, vs, rfl, .inl ⟨hv, fun z => R.used p z hp⟩, (Kp.weak fun a z => Or.inl z).reps r⟩) ((Kp.of_same s).trans (Kp.weak av_off))⟩
/-! ### what the mirrors' mathematics wants -/
theorem comp_emb {α : Type} {dt : DT} {de : DP} {ps0 : PSt} (emb : α → PV) (q : α → Bool) (f : α → PV) : ∀ (us : List α) (s : Sl), (∀ u, u ∈ us → dt (.v (emb u) :: ps0) = .ok (q u) ∧ (q u = true → de (.v (emb u) :: ps0) = .ok (f u))) → compD (gSet 0) dt de (us.map emb) (s :: ps0) = .ok ((us.filter q).map f)
  | [], s, _ => rfl
  | u :: us, s, h => by
    obtain ⟨h1, h2⟩ := h u List.mem_cons_self
    have ih := comp_emb emb q f us (.v (emb u)) fun w' hw => h w' (List.mem_cons_of_mem _ hw)
    have e0 : gSet 0 (emb u) (s :: ps0) = .ok (.v (emb u) :: ps0) := rfl
    rw [List.map_cons, compD, e0, ok_bind, h1, ok_bind]
    cases hp : q u with
    | true => rw [if_pos rfl, h2 hp, ok_bind, ih, ok_bind, List.filter_cons, if_pos hp]; rfl
    | false => rw [if_neg Bool.false_ne_true, ih, List.filter_cons, if_neg (by rw [hp]; exact Bool.false_ne_true)]
theorem comp_all {α : Type} {de : DP} {ps0 : PSt} (emb f : α → PV) (us : List α) (s : Sl) (h : ∀ u, u ∈ us → de (.v (emb u) :: ps0) = .ok (f u)) : compD (gSet 0) dYes de (us.map emb) (s :: ps0) = .ok (us.map f) := by
  rw [comp_emb emb (fun _ => true) f us s fun u hu => ⟨rfl, fun _ => h u hu⟩, List.filter_eq_self.mpr fun _ _ => rfl]
mutual
def PV.data : PV → Bool
  | .obj _ _ => false
  | .dic _ _ => false
  | .tup xs => pdata xs
  | .lst xs => pdata xs
  | _ => true
def pdata : List PV → Bool
  | [] => true
  | x :: xs => x.data && pdata xs
end
mutual
theorem peq_self : ∀ (x : PV), x.data = true → peq x x = some true
  | .non, _ => by simp [peq]
  | .bl _, _ => by simp [peq]
  | .int _, _ => by simp [peq]
  | .str _, _ => by simp [peq]
  | .tup xs, h => by rw [peq]; exact peqs_self xs h
  | .lst xs, h => by rw [peq, if_pos rfl]; exact peqs_self xs h
  | .obj _ _, h => by cases h
  | .dic _ _, h => by cases h
theorem peqs_self : ∀ (xs : List PV), pdata xs = true → peqs xs xs = some true
  | [], _ => by rw [peqs]
  | x :: xs, h => by
    have h : (x.data && pdata xs) = true := h
    rw [Bool.and_eq_true] at h
    rw [peqs, peq_self x h.1, peqs_self xs h.2]
    rfl
end
theorem fEq_self {x : PV} (h : x.data = true) (hd : x.depth < 100) : fEq x x = .ok (.bl true) := by unfold fEq; rw [if_pos hd, peq_self x h]
theorem fNe_self {x : PV} (h : x.data = true) (hd : x.depth < 100) : fNe x x = .ok (.bl false) := by unfold fNe; rw [if_pos hd, peq_self x h]; rfl
theorem pdata_map {α : Type} (f : α → PV) : ∀ (us : List α), (∀ u, u ∈ us → (f u).data = true) → pdata (us.map f) = true
  | [], _ => rfl
  | u :: us, h => by
    show ((f u).data && pdata (us.map f)) = true
    rw [h u List.mem_cons_self, pdata_map f us fun w hw => h w (List.mem_cons_of_mem _ hw)]; rfl
theorem pdepths_map {α : Type} (f : α → PV) (n : Nat) : ∀ (us : List α), (∀ u, u ∈ us → (f u).depth ≤ n) → pdepths (us.map f) ≤ n
  | [], _ => Nat.zero_le _
  | u :: us, h => by
    show max (f u).depth (pdepths (us.map f)) ≤ n
    have h1 := h u List.mem_cons_self
    have h2 := pdepths_map f n us fun w hw => h w (List.mem_cons_of_mem _ hw)
    omega
theorem intsOf_emb {α : Type} (h : α → Int) : ∀ xs : List α, intsOf (xs.map fun i => PV.int (h i)) = some (xs.map h)
  | [] => rfl
  | x :: xs => by
    show (intsOf (xs.map fun i => PV.int (h i))).map (h x :: ·) = _
    rw [intsOf_emb h xs]; rfl
end
end DN
end
section
set_option Elab.async false
set_option linter.all false
set_option maxRecDepth 100000
set_option maxHeartbeats 4000000
namespace M71
open PySem L2 DN
open PyProof.Rows (boot_isinstance boot_bool boot_int boot_str boot_tuple boot_list boot_dict boot_sum boot_all boot_any boot_abs boot_enumerate)
def top (i : Nat) : Stmt := PySem.Challenge.pw_anymeaning_k71_shorter_ones.main.body.getD i (.Pass ⟨0, 0, 0, 0⟩)
def fN : Nat → List Str
  | 0 => []
  | 1 => []
  | 2 => ["name"]
  | 3 => ["inner"]
  | 4 => ["left", "right"]
  | 5 => ["left", "right"]
  | 6 => []
  | 7 => []
  | 8 => []
  | 9 => ["name"]
  | 10 => ["head", "tail"]
  | 11 => ["test", "yes", "no"]
  | 12 => ["test", "body"]
  | _ => []
def pg (cA : Nat → Addr) : Pg := ⟨cA, fN⟩
abbrev a_body : List (Nat × Nat) := [(12, 1)]
abbrev a_head : List (Nat × Nat) := [(10, 0)]
abbrev a_inner : List (Nat × Nat) := [(3, 0)]
abbrev a_left : List (Nat × Nat) := [(4, 0), (5, 0)]
abbrev a_name : List (Nat × Nat) := [(2, 0), (9, 0)]
abbrev a_no : List (Nat × Nat) := [(11, 2)]
abbrev a_right : List (Nat × Nat) := [(4, 1), (5, 1)]
abbrev a_tail : List (Nat × Nat) := [(10, 1)]
abbrev a_test : List (Nat × Nat) := [(11, 0), (12, 0)]
abbrev a_yes : List (Nat × Nat) := [(11, 1)]
abbrev q_holds : List (Nat × Nat) := [(1, 14), (2, 15), (3, 16), (4, 17), (5, 18)]
abbrev i_Choice : List (Nat × Bool) := [(0, false), (1, false), (2, false), (3, false), (4, false), (5, false), (6, false), (0 + 10, false), (1 + 10, false), (2 + 10, false), (3 + 10, false), (4 + 10, false), (5 + 10, false), (6 + 10, false), (7 + 10, false), (8 + 10, false), (9 + 10, false), (10 + 10, false), (11 + 10, true), (12 + 10, false)]
abbrev i_Deed : List (Nat × Bool) := [(0, false), (1, false), (2, false), (3, false), (4, false), (5, false), (6, false), (0 + 10, false), (1 + 10, false), (2 + 10, false), (3 + 10, false), (4 + 10, false), (5 + 10, false), (6 + 10, false), (7 + 10, false), (8 + 10, false), (9 + 10, true), (10 + 10, false), (11 + 10, false), (12 + 10, false)]
abbrev i_Loop : List (Nat × Bool) := [(0, false), (1, false), (2, false), (3, false), (4, false), (5, false), (6, false), (0 + 10, false), (1 + 10, false), (2 + 10, false), (3 + 10, false), (4 + 10, false), (5 + 10, false), (6 + 10, false), (7 + 10, false), (8 + 10, false), (9 + 10, false), (10 + 10, false), (11 + 10, false), (12 + 10, true)]
abbrev i_Row : List (Nat × Bool) := [(0, false), (1, false), (2, false), (3, false), (4, false), (5, false), (6, false), (0 + 10, false), (1 + 10, false), (2 + 10, false), (3 + 10, false), (4 + 10, false), (5 + 10, false), (6 + 10, false), (7 + 10, false), (8 + 10, false), (9 + 10, false), (10 + 10, true), (11 + 10, false), (12 + 10, false)]
abbrev i_Skip : List (Nat × Bool) := [(0, false), (1, false), (2, false), (3, false), (4, false), (5, false), (6, false), (0 + 10, false), (1 + 10, false), (2 + 10, false), (3 + 10, false), (4 + 10, false), (5 + 10, false), (6 + 10, false), (7 + 10, true), (8 + 10, false), (9 + 10, false), (10 + 10, false), (11 + 10, false), (12 + 10, false)]
abbrev i_Stop : List (Nat × Bool) := [(0, false), (1, false), (2, false), (3, false), (4, false), (5, false), (6, false), (0 + 10, false), (1 + 10, false), (2 + 10, false), (3 + 10, false), (4 + 10, false), (5 + 10, false), (6 + 10, false), (7 + 10, false), (8 + 10, true), (9 + 10, false), (10 + 10, false), (11 + 10, false), (12 + 10, false)]
abbrev i_bool : List (Nat × Bool) := [(0, false), (1, true), (2, false), (3, false), (4, false), (5, false), (6, false), (0 + 10, false), (1 + 10, false), (2 + 10, false), (3 + 10, false), (4 + 10, false), (5 + 10, false), (6 + 10, false), (7 + 10, false), (8 + 10, false), (9 + 10, false), (10 + 10, false), (11 + 10, false), (12 + 10, false)]
abbrev i_int : List (Nat × Bool) := [(0, false), (1, true), (2, true), (3, false), (4, false), (5, false), (6, false), (0 + 10, false), (1 + 10, false), (2 + 10, false), (3 + 10, false), (4 + 10, false), (5 + 10, false), (6 + 10, false), (7 + 10, false), (8 + 10, false), (9 + 10, false), (10 + 10, false), (11 + 10, false), (12 + 10, false)]
abbrev i_list : List (Nat × Bool) := [(0, false), (1, false), (2, false), (3, false), (4, false), (5, true), (6, false), (0 + 10, false), (1 + 10, false), (2 + 10, false), (3 + 10, false), (4 + 10, false), (5 + 10, false), (6 + 10, false), (7 + 10, false), (8 + 10, false), (9 + 10, false), (10 + 10, false), (11 + 10, false), (12 + 10, false)]
@[simp] theorem fl_body_12 (x0 x1 : PV) : fldP a_body (.obj 12 [x0, x1]) = .ok x1 := rfl
@[simp] theorem fl_head_10 (x0 x1 : PV) : fldP a_head (.obj 10 [x0, x1]) = .ok x0 := rfl
@[simp] theorem fl_inner_3 (x0 : PV) : fldP a_inner (.obj 3 [x0]) = .ok x0 := rfl
@[simp] theorem fl_left_4 (x0 x1 : PV) : fldP a_left (.obj 4 [x0, x1]) = .ok x0 := rfl
@[simp] theorem fl_left_5 (x0 x1 : PV) : fldP a_left (.obj 5 [x0, x1]) = .ok x0 := rfl
@[simp] theorem fl_name_2 (x0 : PV) : fldP a_name (.obj 2 [x0]) = .ok x0 := rfl
@[simp] theorem fl_name_9 (x0 : PV) : fldP a_name (.obj 9 [x0]) = .ok x0 := rfl
@[simp] theorem fl_no_11 (x0 x1 x2 : PV) : fldP a_no (.obj 11 [x0, x1, x2]) = .ok x2 := rfl
@[simp] theorem fl_right_4 (x0 x1 : PV) : fldP a_right (.obj 4 [x0, x1]) = .ok x1 := rfl
@[simp] theorem fl_right_5 (x0 x1 : PV) : fldP a_right (.obj 5 [x0, x1]) = .ok x1 := rfl
@[simp] theorem fl_tail_10 (x0 x1 : PV) : fldP a_tail (.obj 10 [x0, x1]) = .ok x1 := rfl
@[simp] theorem fl_test_11 (x0 x1 x2 : PV) : fldP a_test (.obj 11 [x0, x1, x2]) = .ok x0 := rfl
@[simp] theorem fl_test_12 (x0 x1 : PV) : fldP a_test (.obj 12 [x0, x1]) = .ok x0 := rfl
@[simp] theorem fl_yes_11 (x0 x1 x2 : PV) : fldP a_yes (.obj 11 [x0, x1, x2]) = .ok x1 := rfl
@[simp] theorem ii_Choice_0 : isiK i_Choice 0 = .ok (.bl false) := rfl
@[simp] theorem ii_Choice_1 : isiK i_Choice 1 = .ok (.bl false) := rfl
@[simp] theorem ii_Choice_2 : isiK i_Choice 2 = .ok (.bl false) := rfl
@[simp] theorem ii_Choice_3 : isiK i_Choice 3 = .ok (.bl false) := rfl
@[simp] theorem ii_Choice_4 : isiK i_Choice 4 = .ok (.bl false) := rfl
@[simp] theorem ii_Choice_5 : isiK i_Choice 5 = .ok (.bl false) := rfl
@[simp] theorem ii_Choice_6 : isiK i_Choice 6 = .ok (.bl false) := rfl
@[simp] theorem ii_Choice_10 : isiK i_Choice (0 + 10) = .ok (.bl false) := rfl
@[simp] theorem ii_Choice_11 : isiK i_Choice (1 + 10) = .ok (.bl false) := rfl
@[simp] theorem ii_Choice_12 : isiK i_Choice (2 + 10) = .ok (.bl false) := rfl
@[simp] theorem ii_Choice_13 : isiK i_Choice (3 + 10) = .ok (.bl false) := rfl
@[simp] theorem ii_Choice_14 : isiK i_Choice (4 + 10) = .ok (.bl false) := rfl
@[simp] theorem ii_Choice_15 : isiK i_Choice (5 + 10) = .ok (.bl false) := rfl
@[simp] theorem ii_Choice_16 : isiK i_Choice (6 + 10) = .ok (.bl false) := rfl
@[simp] theorem ii_Choice_17 : isiK i_Choice (7 + 10) = .ok (.bl false) := rfl
@[simp] theorem ii_Choice_18 : isiK i_Choice (8 + 10) = .ok (.bl false) := rfl
@[simp] theorem ii_Choice_19 : isiK i_Choice (9 + 10) = .ok (.bl false) := rfl
@[simp] theorem ii_Choice_20 : isiK i_Choice (10 + 10) = .ok (.bl false) := rfl
@[simp] theorem ii_Choice_21 : isiK i_Choice (11 + 10) = .ok (.bl true) := rfl
@[simp] theorem ii_Choice_22 : isiK i_Choice (12 + 10) = .ok (.bl false) := rfl
@[simp] theorem ii_Deed_0 : isiK i_Deed 0 = .ok (.bl false) := rfl
@[simp] theorem ii_Deed_1 : isiK i_Deed 1 = .ok (.bl false) := rfl
@[simp] theorem ii_Deed_2 : isiK i_Deed 2 = .ok (.bl false) := rfl
@[simp] theorem ii_Deed_3 : isiK i_Deed 3 = .ok (.bl false) := rfl
@[simp] theorem ii_Deed_4 : isiK i_Deed 4 = .ok (.bl false) := rfl
@[simp] theorem ii_Deed_5 : isiK i_Deed 5 = .ok (.bl false) := rfl
@[simp] theorem ii_Deed_6 : isiK i_Deed 6 = .ok (.bl false) := rfl
@[simp] theorem ii_Deed_10 : isiK i_Deed (0 + 10) = .ok (.bl false) := rfl
@[simp] theorem ii_Deed_11 : isiK i_Deed (1 + 10) = .ok (.bl false) := rfl
@[simp] theorem ii_Deed_12 : isiK i_Deed (2 + 10) = .ok (.bl false) := rfl
@[simp] theorem ii_Deed_13 : isiK i_Deed (3 + 10) = .ok (.bl false) := rfl
@[simp] theorem ii_Deed_14 : isiK i_Deed (4 + 10) = .ok (.bl false) := rfl
@[simp] theorem ii_Deed_15 : isiK i_Deed (5 + 10) = .ok (.bl false) := rfl
@[simp] theorem ii_Deed_16 : isiK i_Deed (6 + 10) = .ok (.bl false) := rfl
@[simp] theorem ii_Deed_17 : isiK i_Deed (7 + 10) = .ok (.bl false) := rfl
@[simp] theorem ii_Deed_18 : isiK i_Deed (8 + 10) = .ok (.bl false) := rfl
@[simp] theorem ii_Deed_19 : isiK i_Deed (9 + 10) = .ok (.bl true) := rfl
@[simp] theorem ii_Deed_20 : isiK i_Deed (10 + 10) = .ok (.bl false) := rfl
@[simp] theorem ii_Deed_21 : isiK i_Deed (11 + 10) = .ok (.bl false) := rfl
@[simp] theorem ii_Deed_22 : isiK i_Deed (12 + 10) = .ok (.bl false) := rfl
@[simp] theorem ii_Loop_0 : isiK i_Loop 0 = .ok (.bl false) := rfl
@[simp] theorem ii_Loop_1 : isiK i_Loop 1 = .ok (.bl false) := rfl
@[simp] theorem ii_Loop_2 : isiK i_Loop 2 = .ok (.bl false) := rfl
@[simp] theorem ii_Loop_3 : isiK i_Loop 3 = .ok (.bl false) := rfl
@[simp] theorem ii_Loop_4 : isiK i_Loop 4 = .ok (.bl false) := rfl
@[simp] theorem ii_Loop_5 : isiK i_Loop 5 = .ok (.bl false) := rfl
@[simp] theorem ii_Loop_6 : isiK i_Loop 6 = .ok (.bl false) := rfl
@[simp] theorem ii_Loop_10 : isiK i_Loop (0 + 10) = .ok (.bl false) := rfl
@[simp] theorem ii_Loop_11 : isiK i_Loop (1 + 10) = .ok (.bl false) := rfl
@[simp] theorem ii_Loop_12 : isiK i_Loop (2 + 10) = .ok (.bl false) := rfl
@[simp] theorem ii_Loop_13 : isiK i_Loop (3 + 10) = .ok (.bl false) := rfl
@[simp] theorem ii_Loop_14 : isiK i_Loop (4 + 10) = .ok (.bl false) := rfl
@[simp] theorem ii_Loop_15 : isiK i_Loop (5 + 10) = .ok (.bl false) := rfl
@[simp] theorem ii_Loop_16 : isiK i_Loop (6 + 10) = .ok (.bl false) := rfl
@[simp] theorem ii_Loop_17 : isiK i_Loop (7 + 10) = .ok (.bl false) := rfl
@[simp] theorem ii_Loop_18 : isiK i_Loop (8 + 10) = .ok (.bl false) := rfl
@[simp] theorem ii_Loop_19 : isiK i_Loop (9 + 10) = .ok (.bl false) := rfl
@[simp] theorem ii_Loop_20 : isiK i_Loop (10 + 10) = .ok (.bl false) := rfl
@[simp] theorem ii_Loop_21 : isiK i_Loop (11 + 10) = .ok (.bl false) := rfl
@[simp] theorem ii_Loop_22 : isiK i_Loop (12 + 10) = .ok (.bl true) := rfl
@[simp] theorem ii_Row_0 : isiK i_Row 0 = .ok (.bl false) := rfl
@[simp] theorem ii_Row_1 : isiK i_Row 1 = .ok (.bl false) := rfl
@[simp] theorem ii_Row_2 : isiK i_Row 2 = .ok (.bl false) := rfl
@[simp] theorem ii_Row_3 : isiK i_Row 3 = .ok (.bl false) := rfl
@[simp] theorem ii_Row_4 : isiK i_Row 4 = .ok (.bl false) := rfl
@[simp] theorem ii_Row_5 : isiK i_Row 5 = .ok (.bl false) := rfl
@[simp] theorem ii_Row_6 : isiK i_Row 6 = .ok (.bl false) := rfl
@[simp] theorem ii_Row_10 : isiK i_Row (0 + 10) = .ok (.bl false) := rfl
@[simp] theorem ii_Row_11 : isiK i_Row (1 + 10) = .ok (.bl false) := rfl
@[simp] theorem ii_Row_12 : isiK i_Row (2 + 10) = .ok (.bl false) := rfl
@[simp] theorem ii_Row_13 : isiK i_Row (3 + 10) = .ok (.bl false) := rfl
@[simp] theorem ii_Row_14 : isiK i_Row (4 + 10) = .ok (.bl false) := rfl
@[simp] theorem ii_Row_15 : isiK i_Row (5 + 10) = .ok (.bl false) := rfl
@[simp] theorem ii_Row_16 : isiK i_Row (6 + 10) = .ok (.bl false) := rfl
@[simp] theorem ii_Row_17 : isiK i_Row (7 + 10) = .ok (.bl false) := rfl
@[simp] theorem ii_Row_18 : isiK i_Row (8 + 10) = .ok (.bl false) := rfl
@[simp] theorem ii_Row_19 : isiK i_Row (9 + 10) = .ok (.bl false) := rfl
@[simp] theorem ii_Row_20 : isiK i_Row (10 + 10) = .ok (.bl true) := rfl
@[simp] theorem ii_Row_21 : isiK i_Row (11 + 10) = .ok (.bl false) := rfl
@[simp] theorem ii_Row_22 : isiK i_Row (12 + 10) = .ok (.bl false) := rfl
@[simp] theorem ii_Skip_0 : isiK i_Skip 0 = .ok (.bl false) := rfl
@[simp] theorem ii_Skip_1 : isiK i_Skip 1 = .ok (.bl false) := rfl
@[simp] theorem ii_Skip_2 : isiK i_Skip 2 = .ok (.bl false) := rfl
@[simp] theorem ii_Skip_3 : isiK i_Skip 3 = .ok (.bl false) := rfl
@[simp] theorem ii_Skip_4 : isiK i_Skip 4 = .ok (.bl false) := rfl
@[simp] theorem ii_Skip_5 : isiK i_Skip 5 = .ok (.bl false) := rfl
@[simp] theorem ii_Skip_6 : isiK i_Skip 6 = .ok (.bl false) := rfl
@[simp] theorem ii_Skip_10 : isiK i_Skip (0 + 10) = .ok (.bl false) := rfl
@[simp] theorem ii_Skip_11 : isiK i_Skip (1 + 10) = .ok (.bl false) := rfl
@[simp] theorem ii_Skip_12 : isiK i_Skip (2 + 10) = .ok (.bl false) := rfl
@[simp] theorem ii_Skip_13 : isiK i_Skip (3 + 10) = .ok (.bl false) := rfl
@[simp] theorem ii_Skip_14 : isiK i_Skip (4 + 10) = .ok (.bl false) := rfl
@[simp] theorem ii_Skip_15 : isiK i_Skip (5 + 10) = .ok (.bl false) := rfl
@[simp] theorem ii_Skip_16 : isiK i_Skip (6 + 10) = .ok (.bl false) := rfl
@[simp] theorem ii_Skip_17 : isiK i_Skip (7 + 10) = .ok (.bl true) := rfl
@[simp] theorem ii_Skip_18 : isiK i_Skip (8 + 10) = .ok (.bl false) := rfl
@[simp] theorem ii_Skip_19 : isiK i_Skip (9 + 10) = .ok (.bl false) := rfl
@[simp] theorem ii_Skip_20 : isiK i_Skip (10 + 10) = .ok (.bl false) := rfl
@[simp] theorem ii_Skip_21 : isiK i_Skip (11 + 10) = .ok (.bl false) := rfl
@[simp] theorem ii_Skip_22 : isiK i_Skip (12 + 10) = .ok (.bl false) := rfl
@[simp] theorem ii_Stop_0 : isiK i_Stop 0 = .ok (.bl false) := rfl
@[simp] theorem ii_Stop_1 : isiK i_Stop 1 = .ok (.bl false) := rfl
@[simp] theorem ii_Stop_2 : isiK i_Stop 2 = .ok (.bl false) := rfl
@[simp] theorem ii_Stop_3 : isiK i_Stop 3 = .ok (.bl false) := rfl
@[simp] theorem ii_Stop_4 : isiK i_Stop 4 = .ok (.bl false) := rfl
@[simp] theorem ii_Stop_5 : isiK i_Stop 5 = .ok (.bl false) := rfl
@[simp] theorem ii_Stop_6 : isiK i_Stop 6 = .ok (.bl false) := rfl
@[simp] theorem ii_Stop_10 : isiK i_Stop (0 + 10) = .ok (.bl false) := rfl
@[simp] theorem ii_Stop_11 : isiK i_Stop (1 + 10) = .ok (.bl false) := rfl
@[simp] theorem ii_Stop_12 : isiK i_Stop (2 + 10) = .ok (.bl false) := rfl
@[simp] theorem ii_Stop_13 : isiK i_Stop (3 + 10) = .ok (.bl false) := rfl
@[simp] theorem ii_Stop_14 : isiK i_Stop (4 + 10) = .ok (.bl false) := rfl
@[simp] theorem ii_Stop_15 : isiK i_Stop (5 + 10) = .ok (.bl false) := rfl
@[simp] theorem ii_Stop_16 : isiK i_Stop (6 + 10) = .ok (.bl false) := rfl
@[simp] theorem ii_Stop_17 : isiK i_Stop (7 + 10) = .ok (.bl false) := rfl
@[simp] theorem ii_Stop_18 : isiK i_Stop (8 + 10) = .ok (.bl true) := rfl
@[simp] theorem ii_Stop_19 : isiK i_Stop (9 + 10) = .ok (.bl false) := rfl
@[simp] theorem ii_Stop_20 : isiK i_Stop (10 + 10) = .ok (.bl false) := rfl
@[simp] theorem ii_Stop_21 : isiK i_Stop (11 + 10) = .ok (.bl false) := rfl
@[simp] theorem ii_Stop_22 : isiK i_Stop (12 + 10) = .ok (.bl false) := rfl
@[simp] theorem ii_bool_0 : isiK i_bool 0 = .ok (.bl false) := rfl
@[simp] theorem ii_bool_1 : isiK i_bool 1 = .ok (.bl true) := rfl
@[simp] theorem ii_bool_2 : isiK i_bool 2 = .ok (.bl false) := rfl
@[simp] theorem ii_bool_3 : isiK i_bool 3 = .ok (.bl false) := rfl
@[simp] theorem ii_bool_4 : isiK i_bool 4 = .ok (.bl false) := rfl
@[simp] theorem ii_bool_5 : isiK i_bool 5 = .ok (.bl false) := rfl
@[simp] theorem ii_bool_6 : isiK i_bool 6 = .ok (.bl false) := rfl
@[simp] theorem ii_bool_10 : isiK i_bool (0 + 10) = .ok (.bl false) := rfl
@[simp] theorem ii_bool_11 : isiK i_bool (1 + 10) = .ok (.bl false) := rfl
@[simp] theorem ii_bool_12 : isiK i_bool (2 + 10) = .ok (.bl false) := rfl
@[simp] theorem ii_bool_13 : isiK i_bool (3 + 10) = .ok (.bl false) := rfl
@[simp] theorem ii_bool_14 : isiK i_bool (4 + 10) = .ok (.bl false) := rfl
@[simp] theorem ii_bool_15 : isiK i_bool (5 + 10) = .ok (.bl false) := rfl
@[simp] theorem ii_bool_16 : isiK i_bool (6 + 10) = .ok (.bl false) := rfl
@[simp] theorem ii_bool_17 : isiK i_bool (7 + 10) = .ok (.bl false) := rfl
@[simp] theorem ii_bool_18 : isiK i_bool (8 + 10) = .ok (.bl false) := rfl
@[simp] theorem ii_bool_19 : isiK i_bool (9 + 10) = .ok (.bl false) := rfl
@[simp] theorem ii_bool_20 : isiK i_bool (10 + 10) = .ok (.bl false) := rfl
@[simp] theorem ii_bool_21 : isiK i_bool (11 + 10) = .ok (.bl false) := rfl
@[simp] theorem ii_bool_22 : isiK i_bool (12 + 10) = .ok (.bl false) := rfl
@[simp] theorem ii_int_0 : isiK i_int 0 = .ok (.bl false) := rfl
@[simp] theorem ii_int_1 : isiK i_int 1 = .ok (.bl true) := rfl
@[simp] theorem ii_int_2 : isiK i_int 2 = .ok (.bl true) := rfl
@[simp] theorem ii_int_3 : isiK i_int 3 = .ok (.bl false) := rfl
@[simp] theorem ii_int_4 : isiK i_int 4 = .ok (.bl false) := rfl
@[simp] theorem ii_int_5 : isiK i_int 5 = .ok (.bl false) := rfl
@[simp] theorem ii_int_6 : isiK i_int 6 = .ok (.bl false) := rfl
@[simp] theorem ii_int_10 : isiK i_int (0 + 10) = .ok (.bl false) := rfl
@[simp] theorem ii_int_11 : isiK i_int (1 + 10) = .ok (.bl false) := rfl
@[simp] theorem ii_int_12 : isiK i_int (2 + 10) = .ok (.bl false) := rfl
@[simp] theorem ii_int_13 : isiK i_int (3 + 10) = .ok (.bl false) := rfl
@[simp] theorem ii_int_14 : isiK i_int (4 + 10) = .ok (.bl false) := rfl
@[simp] theorem ii_int_15 : isiK i_int (5 + 10) = .ok (.bl false) := rfl
@[simp] theorem ii_int_16 : isiK i_int (6 + 10) = .ok (.bl false) := rfl
@[simp] theorem ii_int_17 : isiK i_int (7 + 10) = .ok (.bl false) := rfl
@[simp] theorem ii_int_18 : isiK i_int (8 + 10) = .ok (.bl false) := rfl
@[simp] theorem ii_int_19 : isiK i_int (9 + 10) = .ok (.bl false) := rfl
@[simp] theorem ii_int_20 : isiK i_int (10 + 10) = .ok (.bl false) := rfl
@[simp] theorem ii_int_21 : isiK i_int (11 + 10) = .ok (.bl false) := rfl
@[simp] theorem ii_int_22 : isiK i_int (12 + 10) = .ok (.bl false) := rfl
@[simp] theorem ii_list_0 : isiK i_list 0 = .ok (.bl false) := rfl
@[simp] theorem ii_list_1 : isiK i_list 1 = .ok (.bl false) := rfl
@[simp] theorem ii_list_2 : isiK i_list 2 = .ok (.bl false) := rfl
@[simp] theorem ii_list_3 : isiK i_list 3 = .ok (.bl false) := rfl
@[simp] theorem ii_list_4 : isiK i_list 4 = .ok (.bl false) := rfl
@[simp] theorem ii_list_5 : isiK i_list 5 = .ok (.bl true) := rfl
@[simp] theorem ii_list_6 : isiK i_list 6 = .ok (.bl false) := rfl
@[simp] theorem ii_list_10 : isiK i_list (0 + 10) = .ok (.bl false) := rfl
@[simp] theorem ii_list_11 : isiK i_list (1 + 10) = .ok (.bl false) := rfl
@[simp] theorem ii_list_12 : isiK i_list (2 + 10) = .ok (.bl false) := rfl
@[simp] theorem ii_list_13 : isiK i_list (3 + 10) = .ok (.bl false) := rfl
@[simp] theorem ii_list_14 : isiK i_list (4 + 10) = .ok (.bl false) := rfl
@[simp] theorem ii_list_15 : isiK i_list (5 + 10) = .ok (.bl false) := rfl
@[simp] theorem ii_list_16 : isiK i_list (6 + 10) = .ok (.bl false) := rfl
@[simp] theorem ii_list_17 : isiK i_list (7 + 10) = .ok (.bl false) := rfl
@[simp] theorem ii_list_18 : isiK i_list (8 + 10) = .ok (.bl false) := rfl
@[simp] theorem ii_list_19 : isiK i_list (9 + 10) = .ok (.bl false) := rfl
@[simp] theorem ii_list_20 : isiK i_list (10 + 10) = .ok (.bl false) := rfl
@[simp] theorem ii_list_21 : isiK i_list (11 + 10) = .ok (.bl false) := rfl
@[simp] theorem ii_list_22 : isiK i_list (12 + 10) = .ok (.bl false) := rfl
abbrev c_LETTERS : List PV := [PV.str "a", PV.str "b", PV.str "c", PV.str "d"]
structure Ct (P : Program) (w : World) (K : PySem.W.Frag) (mg : Str → Option Value) (base : Heap) (cA : Nat → Addr) : Prop where
  c_Test : mg "Test" = some (.ref ((pg cA).cA 0))
  l_Test : ClsF K ((pg cA).cA 0)
  c_Yes : mg "Yes" = some (.ref ((pg cA).cA 1))
  l_Yes : ClsF K ((pg cA).cA 1)
  c_Named : mg "Named" = some (.ref ((pg cA).cA 2))
  l_Named : ClsF K ((pg cA).cA 2)
  c_Not : mg "Not" = some (.ref ((pg cA).cA 3))
  l_Not : ClsF K ((pg cA).cA 3)
  c_Both : mg "Both" = some (.ref ((pg cA).cA 4))
  l_Both : ClsF K ((pg cA).cA 4)
  c_Either : mg "Either" = some (.ref ((pg cA).cA 5))
  l_Either : ClsF K ((pg cA).cA 5)
  c_Step : mg "Step" = some (.ref ((pg cA).cA 6))
  l_Step : ClsF K ((pg cA).cA 6)
  c_Skip : mg "Skip" = some (.ref ((pg cA).cA 7))
  l_Skip : ClsF K ((pg cA).cA 7)
  c_Stop : mg "Stop" = some (.ref ((pg cA).cA 8))
  l_Stop : ClsF K ((pg cA).cA 8)
  c_Deed : mg "Deed" = some (.ref ((pg cA).cA 9))
  l_Deed : ClsF K ((pg cA).cA 9)
  c_Row : mg "Row" = some (.ref ((pg cA).cA 10))
  l_Row : ClsF K ((pg cA).cA 10)
  c_Choice : mg "Choice" = some (.ref ((pg cA).cA 11))
  l_Choice : ClsF K ((pg cA).cA 11)
  c_Loop : mg "Loop" = some (.ref ((pg cA).cA 12))
  l_Loop : ClsF K ((pg cA).cA 12)
  n_Both : NewAt P w K mg base "Both" ((pg cA).cA 4) ((pg cA).fN 4)
  n_Choice : NewAt P w K mg base "Choice" ((pg cA).cA 11) ((pg cA).fN 11)
  n_Deed : NewAt P w K mg base "Deed" ((pg cA).cA 9) ((pg cA).fN 9)
  n_Either : NewAt P w K mg base "Either" ((pg cA).cA 5) ((pg cA).fN 5)
  n_Loop : NewAt P w K mg base "Loop" ((pg cA).cA 12) ((pg cA).fN 12)
  n_Named : NewAt P w K mg base "Named" ((pg cA).cA 2) ((pg cA).fN 2)
  n_Not : NewAt P w K mg base "Not" ((pg cA).cA 3) ((pg cA).fN 3)
  n_Row : NewAt P w K mg base "Row" ((pg cA).cA 10) ((pg cA).fN 10)
  k_Skip : Mk0 K ((pg cA).cA 7)
  k_Stop : Mk0 K ((pg cA).cA 8)
  k_Yes : Mk0 K ((pg cA).cA 1)
  f_body : FldOk K (pg cA) "body" a_body
  f_head : FldOk K (pg cA) "head" a_head
  f_inner : FldOk K (pg cA) "inner" a_inner
  f_left : FldOk K (pg cA) "left" a_left
  f_name : FldOk K (pg cA) "name" a_name
  f_no : FldOk K (pg cA) "no" a_no
  f_right : FldOk K (pg cA) "right" a_right
  f_tail : FldOk K (pg cA) "tail" a_tail
  f_test : FldOk K (pg cA) "test" a_test
  f_yes : FldOk K (pg cA) "yes" a_yes
  i_Choice : IsiOk K (pg cA) (.ref ((pg cA).cA 11)) i_Choice
  i_Deed : IsiOk K (pg cA) (.ref ((pg cA).cA 9)) i_Deed
  i_Loop : IsiOk K (pg cA) (.ref ((pg cA).cA 12)) i_Loop
  i_Row : IsiOk K (pg cA) (.ref ((pg cA).cA 10)) i_Row
  i_Skip : IsiOk K (pg cA) (.ref ((pg cA).cA 7)) i_Skip
  i_Stop : IsiOk K (pg cA) (.ref ((pg cA).cA 8)) i_Stop
  i_bool : IsiOk K (pg cA) (.type "bool") i_bool
  i_int : IsiOk K (pg cA) (.type "int") i_int
  i_list : IsiOk K (pg cA) (.type "list") i_list
  e_LETTERS : ∃ a, mg "LETTERS" = some (.ref a) ∧ TopT K a [V.str "a", V.str "b", V.str "c", V.str "d"]
  z_bool : mg "bool" = none
  z_enumerate : mg "enumerate" = none
  z_int : mg "int" = none
  z_isinstance : mg "isinstance" = none
  z_len : mg "len" = none
  z_list : mg "list" = none
  z_range : mg "range" = none
  z_sum : mg "sum" = none
abbrev s_weight_of : Stmt := top 18
theorem sc_weight_of : FnScope ["step", "inner"] ["step"] (defScope s_weight_of) := ⟨rfl, rfl, rfl, by decide +kernel, rfl, by decide +kernel, by decide +kernel⟩
-- slots: 0 step, 1 inner
def d_weight_of (g : Nat → List PV → Rx PV) : DS :=
  (sSeq (sSet 1 (dCall bSum (dCons (dOfN (dComp ["own"] [] (dItems (dCall (g 1) (dCons (dVar 0) dNil))) (gSet 0) dYes (dCall (g 0) (dCons (dVar 0) dNil)))) dNil)))
  (sSeq (sIf (dTr (dIsiT i_Deed i_Loop (dSee 0)))
  (sRet (d2 fAdd (dC (.int 2)) (dSee 1)))
  sNext)
  (sRet (d2 fAdd (dC (.int 1)) (dSee 1)))))
abbrev s_own_programs : Stmt := top 19
theorem sc_own_programs : FnScope ["step"] ["step"] (defScope s_own_programs) := ⟨rfl, rfl, rfl, by decide +kernel, rfl, by decide +kernel, by decide +kernel⟩
-- slots: 0 step
def d_own_programs (g : Nat → List PV → Rx PV) : DS :=
  (sSeq (sIf (dTr (dIsi i_Row (dSee 0)))
  (sRet (dOfN (dCons (dFld a_head (dVar 0)) (dCons (dFld a_tail (dVar 0)) dNil))))
  sNext)
  (sSeq (sIf (dTr (dIsi i_Choice (dSee 0)))
  (sRet (dOfN (dCons (dFld a_yes (dVar 0)) (dCons (dFld a_no (dVar 0)) dNil))))
  sNext)
  (sSeq (sIf (dTr (dIsi i_Loop (dSee 0)))
  (sRet (dOfN (dCons (dFld a_body (dVar 0)) dNil)))
  sNext)
  (sRet (dOfN dNil)))))
abbrev s_with_own : Stmt := top 20
theorem sc_with_own : FnScope ["step", "number", "own"] ["step", "number", "own"] (defScope s_with_own) := ⟨rfl, rfl, rfl, by decide +kernel, rfl, by decide +kernel, by decide +kernel⟩
-- slots: 0 step, 1 number, 2 own
def d_with_own (g : Nat → List PV → Rx PV) : DS :=
  (sSeq (sIf (dTr (dIsi i_Row (dSee 0)))
  (sRet (dIfV (dTr (d2 fEq (dSee 1) (dC (.int 0)))) (dNew 10 (dCons (dVar 2) (dCons (dFld a_tail (dVar 0)) dNil))) (dNew 10 (dCons (dFld a_head (dVar 0)) (dCons (dVar 2) dNil)))))
  sNext)
  (sSeq (sIf (dTr (dIsi i_Choice (dSee 0)))
  (sRet (dIfV (dTr (d2 fEq (dSee 1) (dC (.int 0)))) (dNew 11 (dCons (dFld a_test (dVar 0)) (dCons (dVar 2) (dCons (dFld a_no (dVar 0)) dNil)))) (dNew 11 (dCons (dFld a_test (dVar 0)) (dCons (dFld a_yes (dVar 0)) (dCons (dVar 2) dNil))))))
  sNext)
  (sRet (dNew 12 (dCons (dFld a_test (dVar 0)) (dCons (dVar 2) dNil))))))
abbrev s_shorter : Stmt := top 21
theorem sc_shorter : FnScope ["step", "weight", "own", "found", "number", "inner"] ["step"] (defScope s_shorter) := ⟨rfl, rfl, rfl, by decide +kernel, rfl, by decide +kernel, by decide +kernel⟩
-- slots: 0 step, 1 weight, 2 own, 3 found, 4 number, 5 inner
def b_shorter_1 (g : Nat → List PV → Rx PV) : DS :=
  (sExpr (mExt 3 (dComp ["other"] [("step", 0), ("number", 4)] (dItems (dOfN (dCallW (g 3) (dCons (dVar 5) dNil)))) (gSet 0) dYes (dCall (g 2) (dCons (dVar 1) (dCons (dVar 2) (dCons (dVar 0) dNil)))))))
def d_shorter (g : Nat → List PV → Rx PV) : DS :=
  (sSeq (sSet 1 (dCall (g 0) (dCons (dVar 0) dNil)))
  (sSeq (sSet 2 (dCall (g 1) (dCons (dVar 0) dNil)))
  (sSeq (sOwn 3 (dComp ["other"] [("weight", 1)] (dItems (dOfN (dCatL (dOfN (dCons (dC (.obj 7 [])) (dCons (dC (.obj 8 [])) dNil))) (dSee 2)))) (gSet 0) (dTr (d2 fLt (dCall (g 0) (dCons (dVar 0) dNil)) (dSee 1))) (dVar 0)))
  (sSeq (sForE (dVar 2) (gTupD 2 (gConsD (gSet 4) (gConsD (gSet 5) gNilD)))
  (b_shorter_1 g))
  (sRetO 3)))))
abbrev s_l_cell_at : Stmt := top 23
theorem sc_l_cell_at : FnScope ["_law_script", "_law_k"] ["_law_script", "_law_k"] (defScope s_l_cell_at) := ⟨rfl, rfl, rfl, by decide +kernel, rfl, by decide +kernel, by decide +kernel⟩
-- slots: 0 _law_script, 1 _law_k
def d_l_cell_at (g : Nat → List PV → Rx PV) : DS :=
  (sSeq (sIf (dTr (d2 fLt (dSee 1) (dCall bLen (dCons (dSee 0) dNil))))
  (sRet (d2 fIx (dSee 0) (dSee 1)))
  sNext)
  (sRet (dC (.int 0))))
abbrev s_l_draw : Stmt := top 24
theorem sc_l_draw : FnScope ["_law_cell", "_law_k", "_law_number"] ["_law_cell", "_law_k"] (defScope s_l_draw) := ⟨rfl, rfl, rfl, by decide +kernel, rfl, by decide +kernel, by decide +kernel⟩
-- slots: 0 _law_cell, 1 _law_k, 2 _law_number
def d_l_draw (g : Nat → List PV → Rx PV) : DS :=
  (sSeq (sSet 2 (d2 fMod (d2 fMul (d2 fAdd (d2 fAdd (dSee 0) (d2 fMul (dC (.int 7919)) (dSee 1))) (dC (.int 1))) (dC (.int 48271))) (dC (.int 2147483647))))
  (sRet (d2 fMod (d2 fMul (dSee 2) (d2 fAdd (d2 fDiv (dSee 2) (dC (.int 1009))) (dC (.int 69621)))) (dC (.int 2147483647)))))
abbrev s_l_sign : Stmt := top 25
theorem sc_l_sign : FnScope ["_law_test_here", "_law_one", "_law_two", "_law_kind", "_law_i", "_law_j"] ["_law_test_here"] (defScope s_l_sign) := ⟨rfl, rfl, rfl, by decide +kernel, rfl, by decide +kernel, by decide +kernel⟩
-- slots: 0 _law_test_here, 1 _law_one, 2 _law_two, 3 _law_kind, 4 _law_i, 5 _law_j
def d_l_sign (g : Nat → List PV → Rx PV) : DS :=
  (sSeq (sAsg (gTupD 3 (gConsD (gSet 3) (gConsD (gSet 4) (gConsD (gSet 5) gNilD)))) (dVar 0))
  (sSeq (sSet 1 (dNew 2 (dCons (d2 fIx (dC (.str "abcd")) (dSee 4)) dNil)))
  (sSeq (sSet 2 (dNew 2 (dCons (d2 fIx (dC (.str "abcd")) (dSee 5)) dNil)))
  (sSeq (sIf (dTr (d2 fEq (dSee 3) (dC (.int 1))))
  (sRet (dNew 3 (dCons (dVar 1) dNil)))
  sNext)
  (sSeq (sIf (dTr (d2 fEq (dSee 3) (dC (.int 2))))
  (sRet (dNew 4 (dCons (dVar 1) (dCons (dVar 2) dNil))))
  sNext)
  (sSeq (sIf (dTr (d2 fEq (dSee 3) (dC (.int 3))))
  (sRet (dNew 5 (dCons (dVar 1) (dCons (dNew 3 (dCons (dVar 2) dNil)) dNil))))
  sNext)
  (sSeq (sIf (dTr (d2 fEq (dSee 3) (dC (.int 4))))
  (sRet (dC (.obj 1 [])))
  sNext)
  (sSeq (sIf (dTr (d2 fEq (dSee 3) (dC (.int 5))))
  (sRet (dNew 4 (dCons (dVar 1) (dCons (dNew 3 (dCons (dVar 2) dNil)) dNil))))
  sNext)
  (sRet (dVar 1))))))))))
abbrev s_l_test : Stmt := top 26
theorem sc_l_test : FnScope ["_law_cell"] ["_law_cell"] (defScope s_l_test) := ⟨rfl, rfl, rfl, by decide +kernel, rfl, by decide +kernel, by decide +kernel⟩
-- slots: 0 _law_cell
def d_l_test (g : Nat → List PV → Rx PV) : DS :=
  (sRet (dTup (dCons (d2 fMod (dSee 0) (dC (.int 6))) (dCons (d2 fMod (d2 fDiv (dSee 0) (dC (.int 6))) (dC (.int 4))) (dCons (d2 fMod (d2 fDiv (dSee 0) (dC (.int 24))) (dC (.int 4))) dNil)))))
abbrev s_l_mask : Stmt := top 27
theorem sc_l_mask : FnScope ["_law_sign_here"] ["_law_sign_here"] (defScope s_l_mask) := ⟨rfl, rfl, rfl, by decide +kernel, rfl, by decide +kernel, by decide +kernel⟩
-- slots: 0 _law_sign_here
def d_l_mask (g : Nat → List PV → Rx PV) : DS :=
  (sRet (dCall bSum (dCons (dOfN (dComp ["_law_s"] [("_law_sign_here", 0)] (dRng1 (dCons (dC (.int 16)) dNil)) (gSet 0) (dTr (dMeth q_holds g (dVar 1) (dCons (dVar 0) dNil))) (d2 fShl (dC (.int 1)) (dSee 0)))) dNil)))
abbrev s_l_grown : Stmt := top 28
theorem sc_l_grown : FnScope ["_law_step", "_law_cell", "_law_way", "_law_deed", "_law_sign_here"] ["_law_step", "_law_cell"] (defScope s_l_grown) := ⟨rfl, rfl, rfl, by decide +kernel, rfl, by decide +kernel, by decide +kernel⟩
-- slots: 0 _law_step, 1 _law_cell, 2 _law_way, 3 _law_deed, 4 _law_sign_here
def d_l_grown (g : Nat → List PV → Rx PV) : DS :=
  (sSeq (sSet 2 (d2 fMod (dCall (g 5) (dCons (dVar 1) (dCons (dC (.int 0)) dNil))) (dC (.int 8))))
  (sSeq (sSet 3 (dNew 9 (dCons (d2 fIx (dC (.str "PQRST")) (d2 fMod (dCall (g 5) (dCons (dVar 1) (dCons (dC (.int 1)) dNil))) (dC (.int 5)))) dNil)))
  (sSeq (sSet 4 (dCall (g 6) (dCons (dCall (g 7) (dCons (dCall (g 5) (dCons (dVar 1) (dCons (dC (.int 2)) dNil))) dNil)) dNil)))
  (sSeq (sIf (dTr (d2 fEq (dSee 2) (dC (.int 0))))
  (sRet (dNew 10 (dCons (dVar 0) (dCons (dVar 3) dNil))))
  sNext)
  (sSeq (sIf (dTr (d2 fEq (dSee 2) (dC (.int 1))))
  (sRet (dNew 10 (dCons (dVar 3) (dCons (dVar 0) dNil))))
  sNext)
  (sSeq (sIf (dTr (d2 fEq (dSee 2) (dC (.int 2))))
  (sRet (dNew 12 (dCons (dVar 4) (dCons (dVar 0) dNil))))
  sNext)
  (sSeq (sIf (dTr (d2 fEq (dSee 2) (dC (.int 3))))
  (sRet (dNew 11 (dCons (dVar 4) (dCons (dVar 0) (dCons (dVar 3) dNil)))))
  sNext)
  (sSeq (sIf (dTr (d2 fEq (dSee 2) (dC (.int 4))))
  (sRet (dNew 11 (dCons (dVar 4) (dCons (dVar 3) (dCons (dVar 0) dNil)))))
  sNext)
  (sSeq (sIf (dTr (d2 fEq (dSee 2) (dC (.int 5))))
  (sRet (dNew 10 (dCons (dVar 0) (dCons (dNew 11 (dCons (dVar 4) (dCons (dC (.obj 8 [])) (dCons (dC (.obj 7 [])) dNil)))) dNil))))
  sNext)
  (sSeq (sIf (dTr (d2 fEq (dSee 2) (dC (.int 6))))
  (sRet (dNew 10 (dCons (dNew 12 (dCons (dVar 4) (dCons (dVar 3) dNil))) (dCons (dVar 0) dNil))))
  sNext)
  (sRet (dNew 11 (dCons (dVar 4) (dCons (dC (.obj 7 [])) (dCons (dVar 0) dNil)))))))))))))))
abbrev s_l_taken : Stmt := top 29
theorem sc_l_taken : FnScope ["_law_step"] ["_law_step"] (defScope s_l_taken) := ⟨rfl, rfl, rfl, by decide +kernel, rfl, by decide +kernel, by decide +kernel⟩
-- slots: 0 _law_step
def d_l_taken (g : Nat → List PV → Rx PV) : DS :=
  (sSeq (sIf (dTr (dIsi i_Deed (dSee 0)))
  (sRet (dTup (dCons (dC (.str "deed")) (dCons (dFld a_name (dVar 0)) dNil))))
  sNext)
  (sSeq (sIf (dTr (dIsi i_Row (dSee 0)))
  (sRet (dTup (dCons (dC (.str "row")) (dCons (dCall (g 10) (dCons (dFld a_head (dVar 0)) dNil)) (dCons (dCall (g 10) (dCons (dFld a_tail (dVar 0)) dNil)) dNil)))))
  sNext)
  (sSeq (sIf (dTr (dIsi i_Choice (dSee 0)))
  (sRet (dTup (dCons (dC (.str "choice")) (dCons (dCall (g 10) (dCons (dFld a_yes (dVar 0)) dNil)) (dCons (dCall (g 10) (dCons (dFld a_no (dVar 0)) dNil)) (dCons (dCall (g 8) (dCons (dFld a_test (dVar 0)) dNil)) dNil))))))
  sNext)
  (sSeq (sIf (dTr (dIsi i_Loop (dSee 0)))
  (sRet (dTup (dCons (dC (.str "loop")) (dCons (dCall (g 10) (dCons (dFld a_body (dVar 0)) dNil)) (dCons (dCall (g 8) (dCons (dFld a_test (dVar 0)) dNil)) dNil)))))
  sNext)
  (sSeq (sIf (dTr (dIsi i_Stop (dSee 0)))
  (sRet (dTup (dCons (dC (.str "stop")) dNil)))
  sNext)
  (sSeq (sIf (dTr (dIsi i_Skip (dSee 0)))
  (sRet (dTup (dCons (dC (.str "skip")) dNil)))
  sNext)
  (sRet (dTup (dCons (dC (.str "nothing")) dNil)))))))))
abbrev s_l_weight : Stmt := top 30
theorem sc_l_weight : FnScope ["_law_prog"] ["_law_prog"] (defScope s_l_weight) := ⟨rfl, rfl, rfl, by decide +kernel, rfl, by decide +kernel, by decide +kernel⟩
-- slots: 0 _law_prog
def d_l_weight (g : Nat → List PV → Rx PV) : DS :=
  (sSeq (sIf (dOrT (dTr (d2 fEq (d2 fIx (dSee 0) (dC (.int 0))) (dC (.str "row")))) (dTr (d2 fEq (d2 fIx (dSee 0) (dC (.int 0))) (dC (.str "choice")))))
  (sRet (d2 fAdd (d2 fAdd (dC (.int 1)) (dCall (g 11) (dCons (d2 fIx (dSee 0) (dC (.int 1))) dNil))) (dCall (g 11) (dCons (d2 fIx (dSee 0) (dC (.int 2))) dNil))))
  sNext)
  (sSeq (sIf (dTr (d2 fEq (d2 fIx (dSee 0) (dC (.int 0))) (dC (.str "loop"))))
  (sRet (d2 fAdd (dC (.int 2)) (dCall (g 11) (dCons (d2 fIx (dSee 0) (dC (.int 1))) dNil))))
  sNext)
  (sRet (d2 fAdd (dC (.int 1)) (dCall bInt (dCons (d2 fEq (d2 fIx (dSee 0) (dC (.int 0))) (dC (.str "deed"))) dNil))))))
abbrev s_l_others : Stmt := top 31
theorem sc_l_others : FnScope ["_law_prog", "_law_found"] ["_law_prog"] (defScope s_l_others) := ⟨rfl, rfl, rfl, by decide +kernel, rfl, by decide +kernel, by decide +kernel⟩
-- slots: 0 _law_prog, 1 _law_found
def d_l_others (g : Nat → List PV → Rx PV) : DS :=
  (sSeq (sOwn 1 (dCons (dTup (dCons (dC (.str "skip")) dNil)) (dCons (dTup (dCons (dC (.str "stop")) dNil)) dNil)))
  (sSeq (sIf (dTr (d2 fEq (d2 fIx (dSee 0) (dC (.int 0))) (dC (.str "loop"))))
  (sSeq (sExpr (mApp 1 (dLift (d2 fIx (dSee 0) (dC (.int 1))))))
  (sRet (dOfN (dCatL (dSee 1) (dOfN (dComp ["_law_one"] [("_law_prog", 0)] (dItems (dCall (g 12) (dCons (d2 fIx (dSee 0) (dC (.int 1))) dNil))) (gSet 0) dYes (dTup (dCons (dC (.str "loop")) (dCons (dVar 0) (dCons (d2 fIx (dSee 1) (dC (.int 2))) dNil))))))))))
  sNext)
  (sSeq (sIf (dOrT (dTr (d2 fEq (d2 fIx (dSee 0) (dC (.int 0))) (dC (.str "row")))) (dTr (d2 fEq (d2 fIx (dSee 0) (dC (.int 0))) (dC (.str "choice")))))
  (sSeq (sOwn 1 (dCatL (dSee 1) (dOfN (dCons (d2 fIx (dSee 0) (dC (.int 1))) (dCons (d2 fIx (dSee 0) (dC (.int 2))) dNil)))))
  (sSeq (sOwn 1 (dCatL (dSee 1) (dOfN (dComp ["_law_one"] [("_law_prog", 0)] (dItems (dCall (g 12) (dCons (d2 fIx (dSee 0) (dC (.int 1))) dNil))) (gSet 0) dYes (d2 fCatT (dTup (dCons (d2 fIx (dSee 1) (dC (.int 0))) (dCons (dVar 0) dNil))) (dCutT (dVar 1) (dO1 (dC (.int 2))) dO0))))))
  (sOwn 1 (dCatL (dSee 1) (dOfN (dComp ["_law_one"] [("_law_prog", 0)] (dItems (dCall (g 12) (dCons (d2 fIx (dSee 0) (dC (.int 2))) dNil))) (gSet 0) dYes (d2 fCatT (d2 fCatT (dCutT (dVar 1) dO0 (dO1 (dC (.int 2)))) (dTup (dCons (dVar 0) dNil))) (dCutT (dVar 1) (dO1 (dC (.int 3))) dO0))))))))
  sNext)
  (sRetM (mFrz 1)))))
abbrev s_law : Stmt := top 32
theorem sc_law : FnScope ["_law_script", "_law_cell", "_law_step", "_law_prog", "_law_weight_here", "_law_due", "_law_found", "_law_one"] ["_law_script"] (defScope s_law) := ⟨rfl, rfl, rfl, by decide +kernel, rfl, by decide +kernel, by decide +kernel⟩
-- slots: 0 _law_script, 1 _law_cell, 2 _law_step, 3 _law_prog, 4 _law_weight_here, 5 _law_due, 6 _law_found, 7 _law_one
def b_law_1 (g : Nat → List PV → Rx PV) : DS :=
  (sSet 2 (dCall (g 9) (dCons (dVar 2) (dCons (dVar 7) dNil))))
def b_law_2 (g : Nat → List PV → Rx PV) : DS :=
  (sSet 2 (dCall (g 9) (dCons (dVar 2) (dCons (dVar 7) dNil))))
def d_law (g : Nat → List PV → Rx PV) : DS :=
  (sSeq (sSet 1 (dCall (g 4) (dCons (dVar 0) (dCons (dC (.int 0)) dNil))))
  (sSeq (sSet 2 (d2 fIx (dOfN (dCons (dNew 9 (dCons (d2 fIx (dC (.str "PQRST")) (d2 fMod (d2 fDiv (dSee 1) (dC (.int 4))) (dC (.int 5)))) dNil)) (dCons (dC (.obj 7 [])) (dCons (dC (.obj 8 [])) (dCons (dNew 9 (dCons (dC (.str "P")) dNil)) dNil))))) (d2 fMod (dSee 1) (dC (.int 4)))))
  (sSeq (sIf (dTr (d2 fEq (d2 fMod (d2 fDiv (dSee 1) (dC (.int 20))) (dC (.int 4))) (dC (.int 1))))
  (sSeq (sFor (dItems (dOfN (dCut (dSee 0) (dO1 (dC (.int 1))) (dO1 (dC (.int 3)))))) (gSet 7)
  (b_law_1 g))
  (sSet 2 (d2 fIx (dOfN (dCons (dNew 11 (dCons (dNew 2 (dCons (dC (.str "a")) dNil)) (dCons (dVar 2) (dCons (dVar 2) dNil)))) (dCons (dNew 10 (dCons (dVar 2) (dCons (dVar 2) dNil))) dNil))) (d2 fMod (d2 fDiv (dSee 1) (dC (.int 80))) (dC (.int 2))))))
  (sFor (dItems (dOfN (dCut (dSee 0) (dO1 (dC (.int 1))) (dO1 (dC (.int 5)))))) (gSet 7)
  (b_law_2 g)))
  (sSeq (sSet 3 (dCall (g 10) (dCons (dVar 2) dNil)))
  (sSeq (sSet 4 (dCall (g 0) (dCons (dVar 2) dNil)))
  (sSeq (sIf (dOrT (dNotT (dTr (dIsi i_int (dSee 4)))) (dOrT (dTr (dIsi i_bool (dSee 4))) (dTr (d2 fNe (dSee 4) (dCall (g 11) (dCons (dVar 3) dNil))))))
  (sRet (dC (.bl false)))
  sNext)
  (sSeq (sSet 5 (dOfN (dComp ["_law_one"] [("_law_weight_here", 4)] (dItems (dCall (g 12) (dCons (dVar 3) dNil))) (gSet 0) (dTr (d2 fLt (dCall (g 11) (dCons (dVar 0) dNil)) (dSee 1))) (dVar 0))))
  (sSeq (sOwn 6 (dCallW (g 3) (dCons (dVar 2) dNil)))
  (sSeq (sIf (dOrT (dNotT (dTr (dIsi i_list (dSee 6)))) (dTr (d2 fNe (dOfN (dComp ["_law_one"] [] (dItems (dSee 6)) (gSet 0) dYes (dCall (g 10) (dCons (dVar 0) dNil)))) (dSee 5))))
  (sRet (dC (.bl false)))
  sNext)
  (sSeq (sIf (dTr (d2 fNe (dOfN (dComp ["_law_one"] [] (dItems (dSee 6)) (gSet 0) dYes (dCall (g 0) (dCons (dVar 0) dNil)))) (dOfN (dComp ["_law_one"] [] (dItems (dSee 5)) (gSet 0) dYes (dCall (g 11) (dCons (dVar 0) dNil))))))
  (sRet (dC (.bl false)))
  sNext)
  (sSeq (sExpr (mClr 6))
  (sRet (dAndV (d2 fEq (dCall bLen (dCons (dOfN (dCallW (g 3) (dCons (dVar 2) dNil))) dNil)) (dCall bLen (dCons (dSee 5) dNil))) (d2 fEq (dCall (g 10) (dCons (dVar 2) dNil)) (dSee 3)))))))))))))))
abbrev s_Yes_holds : Stmt := inClass (top 4) 0
theorem sc_Yes_holds : FnScope ["self", "setting"] ["self", "setting"] (defScope s_Yes_holds) := ⟨rfl, rfl, rfl, by decide +kernel, rfl, by decide +kernel, by decide +kernel⟩
-- slots: 0 self, 1 setting
def d_Yes_holds (g : Nat → List PV → Rx PV) : DS :=
  (sRet (dC (.bl true)))
abbrev s_Named_holds : Stmt := inClass (top 5) 1
theorem sc_Named_holds : FnScope ["self", "setting"] ["self", "setting"] (defScope s_Named_holds) := ⟨rfl, rfl, rfl, by decide +kernel, rfl, by decide +kernel, by decide +kernel⟩
-- slots: 0 self, 1 setting
def d_Named_holds (g : Nat → List PV → Rx PV) : DS :=
  (sRet (d2 fEq (d2 fAnd (d2 fShr (dSee 1) (dIndex c_LETTERS (dFld a_name (dVar 0)))) (dC (.int 1))) (dC (.int 1))))
abbrev s_Not_holds : Stmt := inClass (top 6) 1
theorem sc_Not_holds : FnScope ["self", "setting"] ["self", "setting"] (defScope s_Not_holds) := ⟨rfl, rfl, rfl, by decide +kernel, rfl, by decide +kernel, by decide +kernel⟩
-- slots: 0 self, 1 setting
def d_Not_holds (g : Nat → List PV → Rx PV) : DS :=
  (sRet (dNotV (dMeth q_holds g (dFld a_inner (dVar 0)) (dCons (dVar 1) dNil))))
abbrev s_Both_holds : Stmt := inClass (top 7) 1
theorem sc_Both_holds : FnScope ["self", "setting"] ["self", "setting"] (defScope s_Both_holds) := ⟨rfl, rfl, rfl, by decide +kernel, rfl, by decide +kernel, by decide +kernel⟩
-- slots: 0 self, 1 setting
def d_Both_holds (g : Nat → List PV → Rx PV) : DS :=
  (sRet (dAndV (dMeth q_holds g (dFld a_left (dVar 0)) (dCons (dVar 1) dNil)) (dMeth q_holds g (dFld a_right (dVar 0)) (dCons (dVar 1) dNil))))
abbrev s_Either_holds : Stmt := inClass (top 8) 1
theorem sc_Either_holds : FnScope ["self", "setting"] ["self", "setting"] (defScope s_Either_holds) := ⟨rfl, rfl, rfl, by decide +kernel, rfl, by decide +kernel, by decide +kernel⟩
-- slots: 0 self, 1 setting
def d_Either_holds (g : Nat → List PV → Rx PV) : DS :=
  (sRet (dOrV (dMeth q_holds g (dFld a_left (dVar 0)) (dCons (dVar 1) dNil)) (dMeth q_holds g (dFld a_right (dVar 0)) (dCons (dVar 1) dNil))))
def gF : Nat → Nat → List PV → Rx PV
  | 0, _, _ => .bad
  | n + 1, 0, ws => runD [false] 2 (d_weight_of (gF n)) ws
  | n + 1, 1, ws => runD [false] 1 (d_own_programs (gF n)) ws
  | n + 1, 2, ws => runD [false, false, false] 3 (d_with_own (gF n)) ws
  | n + 1, 3, ws => runW [false] 6 (d_shorter (gF n)) ws
  | n + 1, 4, ws => runD [false, false] 2 (d_l_cell_at (gF n)) ws
  | n + 1, 5, ws => runD [false, false] 3 (d_l_draw (gF n)) ws
  | n + 1, 6, ws => runD [false] 6 (d_l_sign (gF n)) ws
  | n + 1, 7, ws => runD [false] 1 (d_l_test (gF n)) ws
  | n + 1, 8, ws => runD [false] 1 (d_l_mask (gF n)) ws
  | n + 1, 9, ws => runD [false, false] 5 (d_l_grown (gF n)) ws
  | n + 1, 10, ws => runD [false] 1 (d_l_taken (gF n)) ws
  | n + 1, 11, ws => runD [false] 1 (d_l_weight (gF n)) ws
  | n + 1, 12, ws => runD [false] 2 (d_l_others (gF n)) ws
  | n + 1, 13, ws => runD [false] 8 (d_law (gF n)) ws
  | n + 1, 14, ws => runD [false, false] 2 (d_Yes_holds (gF n)) ws
  | n + 1, 15, ws => runD [false, false] 2 (d_Named_holds (gF n)) ws
  | n + 1, 16, ws => runD [false, false] 2 (d_Not_holds (gF n)) ws
  | n + 1, 17, ws => runD [false, false] 2 (d_Both_holds (gF n)) ws
  | n + 1, 18, ws => runD [false, false] 2 (d_Either_holds (gF n)) ws
  | _ + 1, _, _ => .bad
theorem g_weight_of (n : Nat) (ws : List PV) : gF (n + 1) 0 ws = runD [false] 2 (d_weight_of (gF n)) ws := rfl
theorem g_own_programs (n : Nat) (ws : List PV) : gF (n + 1) 1 ws = runD [false] 1 (d_own_programs (gF n)) ws := rfl
theorem g_with_own (n : Nat) (ws : List PV) : gF (n + 1) 2 ws = runD [false, false, false] 3 (d_with_own (gF n)) ws := rfl
theorem g_shorter (n : Nat) (ws : List PV) : gF (n + 1) 3 ws = runW [false] 6 (d_shorter (gF n)) ws := rfl
theorem w_shorter : ∀ (n : Nat) (ws : List PV) (w : PV), gF n 3 ws = .ok w → ∃ xs, w = .lst xs
  | 0, ws, w, h => by cases h
  | n + 1, ws, w, h => runW_lst h
theorem g_l_cell_at (n : Nat) (ws : List PV) : gF (n + 1) 4 ws = runD [false, false] 2 (d_l_cell_at (gF n)) ws := rfl
theorem g_l_draw (n : Nat) (ws : List PV) : gF (n + 1) 5 ws = runD [false, false] 3 (d_l_draw (gF n)) ws := rfl
theorem g_l_sign (n : Nat) (ws : List PV) : gF (n + 1) 6 ws = runD [false] 6 (d_l_sign (gF n)) ws := rfl
theorem g_l_test (n : Nat) (ws : List PV) : gF (n + 1) 7 ws = runD [false] 1 (d_l_test (gF n)) ws := rfl
theorem g_l_mask (n : Nat) (ws : List PV) : gF (n + 1) 8 ws = runD [false] 1 (d_l_mask (gF n)) ws := rfl
theorem g_l_grown (n : Nat) (ws : List PV) : gF (n + 1) 9 ws = runD [false, false] 5 (d_l_grown (gF n)) ws := rfl
theorem g_l_taken (n : Nat) (ws : List PV) : gF (n + 1) 10 ws = runD [false] 1 (d_l_taken (gF n)) ws := rfl
theorem g_l_weight (n : Nat) (ws : List PV) : gF (n + 1) 11 ws = runD [false] 1 (d_l_weight (gF n)) ws := rfl
theorem g_l_others (n : Nat) (ws : List PV) : gF (n + 1) 12 ws = runD [false] 2 (d_l_others (gF n)) ws := rfl
theorem g_law (n : Nat) (ws : List PV) : gF (n + 1) 13 ws = runD [false] 8 (d_law (gF n)) ws := rfl
structure AllF (P : Program) (w : World) (K : PySem.W.Frag) (mg : Str → Option Value) (base : Heap) (cA : Nat → Addr) (n : Nat) : Prop where
  h_weight_of : FnAt P w K mg base CX0 (n + 3) "weight_of" (spG K (pg cA) [false] (gF n 0))
  h_own_programs : FnAt P w K mg base CX0 (n + 3) "own_programs" (spG K (pg cA) [false] (gF n 1))
  h_with_own : FnAt P w K mg base CX0 (n + 3) "with_own" (spG K (pg cA) [false, false, false] (gF n 2))
  h_shorter : FnAt P w K mg base CX0 (n + 3) "shorter" (spG K (pg cA) [false] (gF n 3))
  k_shorter : FnAt P w K mg base CX0 (n + 3) "shorter" (spN K (pg cA) [false] (gF n 3))
  h__law_cell_at : FnAt P w K mg base CX0 (n + 3) "_law_cell_at" (spG K (pg cA) [false, false] (gF n 4))
  h__law_draw : FnAt P w K mg base CX0 (n + 3) "_law_draw" (spG K (pg cA) [false, false] (gF n 5))
  h__law_sign : FnAt P w K mg base CX0 (n + 3) "_law_sign" (spG K (pg cA) [false] (gF n 6))
  h__law_test : FnAt P w K mg base CX0 (n + 3) "_law_test" (spG K (pg cA) [false] (gF n 7))
  h__law_mask : FnAt P w K mg base CX0 (n + 3) "_law_mask" (spG K (pg cA) [false] (gF n 8))
  h__law_grown : FnAt P w K mg base CX0 (n + 3) "_law_grown" (spG K (pg cA) [false, false] (gF n 9))
  h__law_taken : FnAt P w K mg base CX0 (n + 3) "_law_taken" (spG K (pg cA) [false] (gF n 10))
  h__law_weight : FnAt P w K mg base CX0 (n + 3) "_law_weight" (spG K (pg cA) [false] (gF n 11))
  h__law_others : FnAt P w K mg base CX0 (n + 3) "_law_others" (spG K (pg cA) [false] (gF n 12))
  h_law : FnAt P w K mg base CX0 (n + 3) "law" (spG K (pg cA) [false] (gF n 13))
  m_holds : MtOk P w K mg base (pg cA) (n + 3) "holds" [false] q_holds (gF n)
theorem b_weight_of {P : Program} {w : World} {K : PySem.W.Frag} {mg : Str → Option Value} {base : Heap} {cA : Nat → Addr} {n : Nat} (C : Ct P w K mg base cA) (I : AllF P w K mg base cA n) {f : Addr} {cdv : Value} {A : Around} {outer : List Env} {s : Shared} {H : Hp} {E : XK} (hr : Room (n + 3) (A.deeper (PyProof.Rows.envOfC "weight_of" (defScope s_weight_of) s.heap.objs.size f cdv))) :
    JSs (cxOf CX0 P w K mg base ["step", "inner"] "weight_of" (defScope s_weight_of) f cdv A outer s H E).nox (pg cA) (defBody s_weight_of) (d_weight_of (gF n)) := by
  unfold d_weight_of
  exact (ss_cons (s_set (i := 1) sc_weight_of.nd rfl (Or.inl rfl) (p_callB (call_sum rfl) cb_sum rfl C.z_sum boot_sum (a_consB (b_of (p_of_n (n_comp (own := ["own"]) (caps := []) ⟨rfl, by decide +kernel, by decide +kernel, True.intro, rfl⟩ rfl (s_list (b_of (p_fn I.h_own_programs hr rfl (a_cons (p_var 0) a_nil)))) (fun _ _ _ _ => (g_name (i := 0) (show (["own"] : List Str).Nodup by decide +kernel) rfl (Or.inl rfl))) (fun _ _ _ _ => ts_nil) (fun _ _ _ _ => (p_fn I.h_weight_of hr rfl (a_cons (p_var 0) a_nil))) gk_set))) a_nil)))
  (ss_cons (s_if (t_val (p_isiT rfl C.z_isinstance C.i_Deed C.i_Loop (b_var 0) (pe_globR rfl C.c_Deed) (pe_globR rfl C.c_Loop)))
  (ss_one (s_ret (p_add (b_of p_int) (b_var 1))))
  ss_nil)
  (ss_one (s_ret (p_add (b_of p_int) (b_var 1))))))
theorem b_own_programs {P : Program} {w : World} {K : PySem.W.Frag} {mg : Str → Option Value} {base : Heap} {cA : Nat → Addr} {n : Nat} (C : Ct P w K mg base cA) (I : AllF P w K mg base cA n) {f : Addr} {cdv : Value} {A : Around} {outer : List Env} {s : Shared} {H : Hp} {E : XK} (hr : Room (n + 3) (A.deeper (PyProof.Rows.envOfC "own_programs" (defScope s_own_programs) s.heap.objs.size f cdv))) :
    JSs (cxOf CX0 P w K mg base ["step"] "own_programs" (defScope s_own_programs) f cdv A outer s H E).nox (pg cA) (defBody s_own_programs) (d_own_programs (gF n)) := by
  unfold d_own_programs
  exact (ss_cons (s_if (t_val (p_isi rfl C.z_isinstance C.i_Row ref_only (b_var 0) (pe_globR rfl C.c_Row)))
  (ss_one (s_ret (p_of_n (n_lst (a_cons (p_fld C.f_head (p_var 0) rfl) (a_cons (p_fld C.f_tail (p_var 0) rfl) a_nil))))))
  ss_nil)
  (ss_cons (s_if (t_val (p_isi rfl C.z_isinstance C.i_Choice ref_only (b_var 0) (pe_globR rfl C.c_Choice)))
  (ss_one (s_ret (p_of_n (n_lst (a_cons (p_fld C.f_yes (p_var 0) rfl) (a_cons (p_fld C.f_no (p_var 0) rfl) a_nil))))))
  ss_nil)
  (ss_cons (s_if (t_val (p_isi rfl C.z_isinstance C.i_Loop ref_only (b_var 0) (pe_globR rfl C.c_Loop)))
  (ss_one (s_ret (p_of_n (n_lst (a_cons (p_fld C.f_body (p_var 0) rfl) a_nil)))))
  ss_nil)
  (ss_one (s_ret (p_of_n (n_lst a_nil)))))))
theorem b_with_own {P : Program} {w : World} {K : PySem.W.Frag} {mg : Str → Option Value} {base : Heap} {cA : Nat → Addr} {n : Nat} (C : Ct P w K mg base cA) (I : AllF P w K mg base cA n) {f : Addr} {cdv : Value} {A : Around} {outer : List Env} {s : Shared} {H : Hp} {E : XK} (hr : Room (n + 3) (A.deeper (PyProof.Rows.envOfC "with_own" (defScope s_with_own) s.heap.objs.size f cdv))) :
    JSs (cxOf CX0 P w K mg base ["step", "number", "own"] "with_own" (defScope s_with_own) f cdv A outer s H E).nox (pg cA) (defBody s_with_own) (d_with_own (gF n)) := by
  unfold d_with_own
  exact (ss_cons (s_if (t_val (p_isi rfl C.z_isinstance C.i_Row ref_only (b_var 0) (pe_globR rfl C.c_Row)))
  (ss_one (s_ret (p_ifV (t_eq hr (b_var 1) (b_of p_int)) (p_new (k := n + 1) C.n_Row hr rfl (a_cons (p_var 2) (a_cons (p_fld C.f_tail (p_var 0) rfl) a_nil)) rfl) (p_new (k := n + 1) C.n_Row hr rfl (a_cons (p_fld C.f_head (p_var 0) rfl) (a_cons (p_var 2) a_nil)) rfl))))
  ss_nil)
  (ss_cons (s_if (t_val (p_isi rfl C.z_isinstance C.i_Choice ref_only (b_var 0) (pe_globR rfl C.c_Choice)))
  (ss_one (s_ret (p_ifV (t_eq hr (b_var 1) (b_of p_int)) (p_new (k := n + 1) C.n_Choice hr rfl (a_cons (p_fld C.f_test (p_var 0) rfl) (a_cons (p_var 2) (a_cons (p_fld C.f_no (p_var 0) rfl) a_nil))) rfl) (p_new (k := n + 1) C.n_Choice hr rfl (a_cons (p_fld C.f_test (p_var 0) rfl) (a_cons (p_fld C.f_yes (p_var 0) rfl) (a_cons (p_var 2) a_nil))) rfl))))
  ss_nil)
  (ss_one (s_ret (p_new (k := n + 1) C.n_Loop hr rfl (a_cons (p_fld C.f_test (p_var 0) rfl) (a_cons (p_var 2) a_nil)) rfl)))))
theorem b_shorter {P : Program} {w : World} {K : PySem.W.Frag} {mg : Str → Option Value} {base : Heap} {cA : Nat → Addr} {n : Nat} (C : Ct P w K mg base cA) (I : AllF P w K mg base cA n) {f : Addr} {cdv : Value} {A : Around} {outer : List Env} {s : Shared} {H : Hp} {E : XK} (hr : Room (n + 3) (A.deeper (PyProof.Rows.envOfC "shorter" (defScope s_shorter) s.heap.objs.size f cdv))) :
    JSs (cxOf CX0 P w K mg base ["step", "weight", "own", "found", "number", "inner"] "shorter" (defScope s_shorter) f cdv A outer s H E).nox (pg cA) (defBody s_shorter) (d_shorter (gF n)) := by
  unfold d_shorter
  exact (ss_cons (s_set (i := 1) sc_shorter.nd rfl (Or.inr rfl) (p_fn I.h_weight_of hr rfl (a_cons (p_var 0) a_nil)))
  (ss_cons (s_set (i := 2) sc_shorter.nd rfl (Or.inl rfl) (p_fn I.h_own_programs hr rfl (a_cons (p_var 0) a_nil)))
  (ss_cons (s_ownC (i := 3) sc_shorter.nd rfl (Or.inl rfl) (own := ["other"]) (caps := [("weight", 1)]) ⟨rfl, by decide +kernel, by decide +kernel, ⟨⟨rfl, rfl, Or.inl rfl⟩, True.intro⟩, rfl⟩ rfl (s_list (b_of (p_of_n (n_cat (b_of (p_of_n (n_lst (a_cons (p_new0 C.k_Skip rfl rfl C.c_Skip) (a_cons (p_new0 C.k_Stop rfl rfl C.c_Stop) a_nil))))) (b_var 2) op_catL)))) (fun _ _ _ _ => (g_name (i := 0) (show (["other", "weight"] : List Str).Nodup by decide +kernel) rfl (Or.inl rfl))) (fun _ _ _ _ => (ts_one (t_lt (b_of (p_fn I.h_weight_of hr rfl (a_cons (p_var 0) a_nil))) (b_var 1)))) (fun _ _ _ _ => (p_var 0)) gk_set)
  (ss_cons (s_forE PassesOwn.never rfl rfl C.z_enumerate (p_var 2) (g_tup rfl (gs_cons (g_name (i := 4) sc_shorter.nd rfl (Or.inr rfl)) (gs_cons (g_name (i := 5) sc_shorter.nd rfl (Or.inl rfl)) gs_nil)))
  (ss_one (s_expr (m_ext 3 (n_comp (own := ["other"]) (caps := [("step", 0), ("number", 4)]) ⟨rfl, by decide +kernel, by decide +kernel, ⟨⟨rfl, rfl, Or.inl rfl⟩, ⟨⟨rfl, rfl, Or.inl rfl⟩, True.intro⟩⟩, rfl⟩ rfl (s_list (b_of (p_of_n (n_fn I.k_shorter hr rfl (a_cons (p_var 5) a_nil))))) (fun _ _ _ _ => (g_name (i := 0) (show (["other", "step", "number"] : List Str).Nodup by decide +kernel) rfl (Or.inl rfl))) (fun _ _ _ _ => ts_nil) (fun _ _ _ _ => (p_fn I.h_with_own hr rfl (a_cons (p_var 1) (a_cons (p_var 2) (a_cons (p_var 0) a_nil))))) gk_set)))))
  (ss_one (s_retO 3))))))
theorem b_l_cell_at {P : Program} {w : World} {K : PySem.W.Frag} {mg : Str → Option Value} {base : Heap} {cA : Nat → Addr} {n : Nat} (C : Ct P w K mg base cA) (I : AllF P w K mg base cA n) {f : Addr} {cdv : Value} {A : Around} {outer : List Env} {s : Shared} {H : Hp} {E : XK} (hr : Room (n + 3) (A.deeper (PyProof.Rows.envOfC "_law_cell_at" (defScope s_l_cell_at) s.heap.objs.size f cdv))) :
    JSs (cxOf CX0 P w K mg base ["_law_script", "_law_k"] "_law_cell_at" (defScope s_l_cell_at) f cdv A outer s H E).nox (pg cA) (defBody s_l_cell_at) (d_l_cell_at (gF n)) := by
  unfold d_l_cell_at
  exact (ss_cons (s_if (t_lt (b_var 1) (b_of (p_callB call_len cb_len rfl C.z_len PySem.boot_len (a_consB (b_var 0) a_nil))))
  (ss_one (s_ret (p_at (b_var 0) (b_var 1) (fun _ _ => rfl))))
  ss_nil)
  (ss_one (s_ret p_int)))
theorem b_l_draw {P : Program} {w : World} {K : PySem.W.Frag} {mg : Str → Option Value} {base : Heap} {cA : Nat → Addr} {n : Nat} (C : Ct P w K mg base cA) (I : AllF P w K mg base cA n) {f : Addr} {cdv : Value} {A : Around} {outer : List Env} {s : Shared} {H : Hp} {E : XK} (hr : Room (n + 3) (A.deeper (PyProof.Rows.envOfC "_law_draw" (defScope s_l_draw) s.heap.objs.size f cdv))) :
    JSs (cxOf CX0 P w K mg base ["_law_cell", "_law_k", "_law_number"] "_law_draw" (defScope s_l_draw) f cdv A outer s H E).nox (pg cA) (defBody s_l_draw) (d_l_draw (gF n)) := by
  unfold d_l_draw
  exact (ss_cons (s_set (i := 2) sc_l_draw.nd rfl (Or.inl rfl) (p_mod (b_of (p_mul (b_of (p_add (b_of (p_add (b_var 0) (b_of (p_mul (b_of p_int) (b_var 1))))) (b_of p_int))) (b_of p_int))) (b_of p_int)))
  (ss_one (s_ret (p_mod (b_of (p_mul (b_var 2) (b_of (p_add (b_of (p_div (b_var 2) (b_of p_int))) (b_of p_int))))) (b_of p_int)))))
theorem b_l_sign {P : Program} {w : World} {K : PySem.W.Frag} {mg : Str → Option Value} {base : Heap} {cA : Nat → Addr} {n : Nat} (C : Ct P w K mg base cA) (I : AllF P w K mg base cA n) {f : Addr} {cdv : Value} {A : Around} {outer : List Env} {s : Shared} {H : Hp} {E : XK} (hr : Room (n + 3) (A.deeper (PyProof.Rows.envOfC "_law_sign" (defScope s_l_sign) s.heap.objs.size f cdv))) :
    JSs (cxOf CX0 P w K mg base ["_law_test_here", "_law_one", "_law_two", "_law_kind", "_law_i", "_law_j"] "_law_sign" (defScope s_l_sign) f cdv A outer s H E).nox (pg cA) (defBody s_l_sign) (d_l_sign (gF n)) := by
  unfold d_l_sign
  exact (ss_cons (s_asg (p_var 0) (g_tup rfl (gs_cons (g_name (i := 3) sc_l_sign.nd rfl (Or.inl rfl)) (gs_cons (g_name (i := 4) sc_l_sign.nd rfl (Or.inl rfl)) (gs_cons (g_name (i := 5) sc_l_sign.nd rfl (Or.inl rfl)) gs_nil)))))
  (ss_cons (s_set (i := 1) sc_l_sign.nd rfl (Or.inl rfl) (p_new (k := n + 1) C.n_Named hr rfl (a_cons (p_at (b_of p_str) (b_var 4) (fun _ _ => rfl)) a_nil) rfl))
  (ss_cons (s_set (i := 2) sc_l_sign.nd rfl (Or.inl rfl) (p_new (k := n + 1) C.n_Named hr rfl (a_cons (p_at (b_of p_str) (b_var 5) (fun _ _ => rfl)) a_nil) rfl))
  (ss_cons (s_if (t_eq hr (b_var 3) (b_of p_int))
  (ss_one (s_ret (p_new (k := n + 1) C.n_Not hr rfl (a_cons (p_var 1) a_nil) rfl)))
  ss_nil)
  (ss_cons (s_if (t_eq hr (b_var 3) (b_of p_int))
  (ss_one (s_ret (p_new (k := n + 1) C.n_Both hr rfl (a_cons (p_var 1) (a_cons (p_var 2) a_nil)) rfl)))
  ss_nil)
  (ss_cons (s_if (t_eq hr (b_var 3) (b_of p_int))
  (ss_one (s_ret (p_new (k := n + 1) C.n_Either hr rfl (a_cons (p_var 1) (a_cons (p_new (k := n + 1) C.n_Not hr rfl (a_cons (p_var 2) a_nil) rfl) a_nil)) rfl)))
  ss_nil)
  (ss_cons (s_if (t_eq hr (b_var 3) (b_of p_int))
  (ss_one (s_ret (p_new0 C.k_Yes rfl rfl C.c_Yes)))
  ss_nil)
  (ss_cons (s_if (t_eq hr (b_var 3) (b_of p_int))
  (ss_one (s_ret (p_new (k := n + 1) C.n_Both hr rfl (a_cons (p_var 1) (a_cons (p_new (k := n + 1) C.n_Not hr rfl (a_cons (p_var 2) a_nil) rfl) a_nil)) rfl)))
  ss_nil)
  (ss_one (s_ret (p_var 1)))))))))))
theorem b_l_test {P : Program} {w : World} {K : PySem.W.Frag} {mg : Str → Option Value} {base : Heap} {cA : Nat → Addr} {n : Nat} (C : Ct P w K mg base cA) (I : AllF P w K mg base cA n) {f : Addr} {cdv : Value} {A : Around} {outer : List Env} {s : Shared} {H : Hp} {E : XK} (hr : Room (n + 3) (A.deeper (PyProof.Rows.envOfC "_law_test" (defScope s_l_test) s.heap.objs.size f cdv))) :
    JSs (cxOf CX0 P w K mg base ["_law_cell"] "_law_test" (defScope s_l_test) f cdv A outer s H E).nox (pg cA) (defBody s_l_test) (d_l_test (gF n)) := by
  unfold d_l_test
  exact (ss_one (s_ret (p_tup (a_cons (p_mod (b_var 0) (b_of p_int)) (a_cons (p_mod (b_of (p_div (b_var 0) (b_of p_int))) (b_of p_int)) (a_cons (p_mod (b_of (p_div (b_var 0) (b_of p_int))) (b_of p_int)) a_nil))))))
theorem b_l_mask {P : Program} {w : World} {K : PySem.W.Frag} {mg : Str → Option Value} {base : Heap} {cA : Nat → Addr} {n : Nat} (C : Ct P w K mg base cA) (I : AllF P w K mg base cA n) {f : Addr} {cdv : Value} {A : Around} {outer : List Env} {s : Shared} {H : Hp} {E : XK} (hr : Room (n + 3) (A.deeper (PyProof.Rows.envOfC "_law_mask" (defScope s_l_mask) s.heap.objs.size f cdv))) :
    JSs (cxOf CX0 P w K mg base ["_law_sign_here"] "_law_mask" (defScope s_l_mask) f cdv A outer s H E).nox (pg cA) (defBody s_l_mask) (d_l_mask (gF n)) := by
  unfold d_l_mask
  exact (ss_one (s_ret (p_callB (call_sum rfl) cb_sum rfl C.z_sum boot_sum (a_consB (b_of (p_of_n (n_comp (own := ["_law_s"]) (caps := [("_law_sign_here", 0)]) ⟨rfl, by decide +kernel, by decide +kernel, ⟨⟨rfl, rfl, Or.inl rfl⟩, True.intro⟩, rfl⟩ rfl (s_of_i (i_rng1 rfl C.z_range (a_cons p_int a_nil))) (fun _ _ _ _ => (g_name (i := 0) (show (["_law_s", "_law_sign_here"] : List Str).Nodup by decide +kernel) rfl (Or.inl rfl))) (fun _ _ _ _ => (ts_one (t_val (p_meth I.m_holds hr (p_var 1) (a_cons (p_var 0) a_nil))))) (fun _ _ _ _ => (p_shl (b_of p_int) (b_var 0))) gk_set))) a_nil))))
theorem b_l_grown {P : Program} {w : World} {K : PySem.W.Frag} {mg : Str → Option Value} {base : Heap} {cA : Nat → Addr} {n : Nat} (C : Ct P w K mg base cA) (I : AllF P w K mg base cA n) {f : Addr} {cdv : Value} {A : Around} {outer : List Env} {s : Shared} {H : Hp} {E : XK} (hr : Room (n + 3) (A.deeper (PyProof.Rows.envOfC "_law_grown" (defScope s_l_grown) s.heap.objs.size f cdv))) :
    JSs (cxOf CX0 P w K mg base ["_law_step", "_law_cell", "_law_way", "_law_deed", "_law_sign_here"] "_law_grown" (defScope s_l_grown) f cdv A outer s H E).nox (pg cA) (defBody s_l_grown) (d_l_grown (gF n)) := by
  unfold d_l_grown
  exact (ss_cons (s_set (i := 2) sc_l_grown.nd rfl (Or.inl rfl) (p_mod (b_of (p_fn I.h__law_draw hr rfl (a_cons (p_var 1) (a_cons p_int a_nil)))) (b_of p_int)))
  (ss_cons (s_set (i := 3) sc_l_grown.nd rfl (Or.inl rfl) (p_new (k := n + 1) C.n_Deed hr rfl (a_cons (p_at (b_of p_str) (b_of (p_mod (b_of (p_fn I.h__law_draw hr rfl (a_cons (p_var 1) (a_cons p_int a_nil)))) (b_of p_int))) (fun _ _ => rfl)) a_nil) rfl))
  (ss_cons (s_set (i := 4) sc_l_grown.nd rfl (Or.inl rfl) (p_fn I.h__law_sign hr rfl (a_cons (p_fn I.h__law_test hr rfl (a_cons (p_fn I.h__law_draw hr rfl (a_cons (p_var 1) (a_cons p_int a_nil))) a_nil)) a_nil)))
  (ss_cons (s_if (t_eq hr (b_var 2) (b_of p_int))
  (ss_one (s_ret (p_new (k := n + 1) C.n_Row hr rfl (a_cons (p_var 0) (a_cons (p_var 3) a_nil)) rfl)))
  ss_nil)
  (ss_cons (s_if (t_eq hr (b_var 2) (b_of p_int))
  (ss_one (s_ret (p_new (k := n + 1) C.n_Row hr rfl (a_cons (p_var 3) (a_cons (p_var 0) a_nil)) rfl)))
  ss_nil)
  (ss_cons (s_if (t_eq hr (b_var 2) (b_of p_int))
  (ss_one (s_ret (p_new (k := n + 1) C.n_Loop hr rfl (a_cons (p_var 4) (a_cons (p_var 0) a_nil)) rfl)))
  ss_nil)
  (ss_cons (s_if (t_eq hr (b_var 2) (b_of p_int))
  (ss_one (s_ret (p_new (k := n + 1) C.n_Choice hr rfl (a_cons (p_var 4) (a_cons (p_var 0) (a_cons (p_var 3) a_nil))) rfl)))
  ss_nil)
  (ss_cons (s_if (t_eq hr (b_var 2) (b_of p_int))
  (ss_one (s_ret (p_new (k := n + 1) C.n_Choice hr rfl (a_cons (p_var 4) (a_cons (p_var 3) (a_cons (p_var 0) a_nil))) rfl)))
  ss_nil)
  (ss_cons (s_if (t_eq hr (b_var 2) (b_of p_int))
  (ss_one (s_ret (p_new (k := n + 1) C.n_Row hr rfl (a_cons (p_var 0) (a_cons (p_new (k := n + 1) C.n_Choice hr rfl (a_cons (p_var 4) (a_cons (p_new0 C.k_Stop rfl rfl C.c_Stop) (a_cons (p_new0 C.k_Skip rfl rfl C.c_Skip) a_nil))) rfl) a_nil)) rfl)))
  ss_nil)
  (ss_cons (s_if (t_eq hr (b_var 2) (b_of p_int))
  (ss_one (s_ret (p_new (k := n + 1) C.n_Row hr rfl (a_cons (p_new (k := n + 1) C.n_Loop hr rfl (a_cons (p_var 4) (a_cons (p_var 3) a_nil)) rfl) (a_cons (p_var 0) a_nil)) rfl)))
  ss_nil)
  (ss_one (s_ret (p_new (k := n + 1) C.n_Choice hr rfl (a_cons (p_var 4) (a_cons (p_new0 C.k_Skip rfl rfl C.c_Skip) (a_cons (p_var 0) a_nil))) rfl)))))))))))))
theorem b_l_taken {P : Program} {w : World} {K : PySem.W.Frag} {mg : Str → Option Value} {base : Heap} {cA : Nat → Addr} {n : Nat} (C : Ct P w K mg base cA) (I : AllF P w K mg base cA n) {f : Addr} {cdv : Value} {A : Around} {outer : List Env} {s : Shared} {H : Hp} {E : XK} (hr : Room (n + 3) (A.deeper (PyProof.Rows.envOfC "_law_taken" (defScope s_l_taken) s.heap.objs.size f cdv))) :
    JSs (cxOf CX0 P w K mg base ["_law_step"] "_law_taken" (defScope s_l_taken) f cdv A outer s H E).nox (pg cA) (defBody s_l_taken) (d_l_taken (gF n)) := by
  unfold d_l_taken
  exact (ss_cons (s_if (t_val (p_isi rfl C.z_isinstance C.i_Deed ref_only (b_var 0) (pe_globR rfl C.c_Deed)))
  (ss_one (s_ret (p_tup (a_cons p_str (a_cons (p_fld C.f_name (p_var 0) rfl) a_nil)))))
  ss_nil)
  (ss_cons (s_if (t_val (p_isi rfl C.z_isinstance C.i_Row ref_only (b_var 0) (pe_globR rfl C.c_Row)))
  (ss_one (s_ret (p_tup (a_cons p_str (a_cons (p_fn I.h__law_taken hr rfl (a_cons (p_fld C.f_head (p_var 0) rfl) a_nil)) (a_cons (p_fn I.h__law_taken hr rfl (a_cons (p_fld C.f_tail (p_var 0) rfl) a_nil)) a_nil))))))
  ss_nil)
  (ss_cons (s_if (t_val (p_isi rfl C.z_isinstance C.i_Choice ref_only (b_var 0) (pe_globR rfl C.c_Choice)))
  (ss_one (s_ret (p_tup (a_cons p_str (a_cons (p_fn I.h__law_taken hr rfl (a_cons (p_fld C.f_yes (p_var 0) rfl) a_nil)) (a_cons (p_fn I.h__law_taken hr rfl (a_cons (p_fld C.f_no (p_var 0) rfl) a_nil)) (a_cons (p_fn I.h__law_mask hr rfl (a_cons (p_fld C.f_test (p_var 0) rfl) a_nil)) a_nil)))))))
  ss_nil)
  (ss_cons (s_if (t_val (p_isi rfl C.z_isinstance C.i_Loop ref_only (b_var 0) (pe_globR rfl C.c_Loop)))
  (ss_one (s_ret (p_tup (a_cons p_str (a_cons (p_fn I.h__law_taken hr rfl (a_cons (p_fld C.f_body (p_var 0) rfl) a_nil)) (a_cons (p_fn I.h__law_mask hr rfl (a_cons (p_fld C.f_test (p_var 0) rfl) a_nil)) a_nil))))))
  ss_nil)
  (ss_cons (s_if (t_val (p_isi rfl C.z_isinstance C.i_Stop ref_only (b_var 0) (pe_globR rfl C.c_Stop)))
  (ss_one (s_ret (p_tup (a_cons p_str a_nil))))
  ss_nil)
  (ss_cons (s_if (t_val (p_isi rfl C.z_isinstance C.i_Skip ref_only (b_var 0) (pe_globR rfl C.c_Skip)))
  (ss_one (s_ret (p_tup (a_cons p_str a_nil))))
  ss_nil)
  (ss_one (s_ret (p_tup (a_cons p_str a_nil))))))))))
theorem b_l_weight {P : Program} {w : World} {K : PySem.W.Frag} {mg : Str → Option Value} {base : Heap} {cA : Nat → Addr} {n : Nat} (C : Ct P w K mg base cA) (I : AllF P w K mg base cA n) {f : Addr} {cdv : Value} {A : Around} {outer : List Env} {s : Shared} {H : Hp} {E : XK} (hr : Room (n + 3) (A.deeper (PyProof.Rows.envOfC "_law_weight" (defScope s_l_weight) s.heap.objs.size f cdv))) :
    JSs (cxOf CX0 P w K mg base ["_law_prog"] "_law_weight" (defScope s_l_weight) f cdv A outer s H E).nox (pg cA) (defBody s_l_weight) (d_l_weight (gF n)) := by
  unfold d_l_weight
  exact (ss_cons (s_if (t_w (w_or (t_eq hr (b_of (p_at (b_var 0) (b_of p_int) (fun _ _ => rfl))) (b_of p_str)) (w_or1 (t_eq hr (b_of (p_at (b_var 0) (b_of p_int) (fun _ _ => rfl))) (b_of p_str)))))
  (ss_one (s_ret (p_add (b_of (p_add (b_of p_int) (b_of (p_fn I.h__law_weight hr rfl (a_cons (p_at (b_var 0) (b_of p_int) (fun _ _ => rfl)) a_nil))))) (b_of (p_fn I.h__law_weight hr rfl (a_cons (p_at (b_var 0) (b_of p_int) (fun _ _ => rfl)) a_nil))))))
  ss_nil)
  (ss_cons (s_if (t_eq hr (b_of (p_at (b_var 0) (b_of p_int) (fun _ _ => rfl))) (b_of p_str))
  (ss_one (s_ret (p_add (b_of p_int) (b_of (p_fn I.h__law_weight hr rfl (a_cons (p_at (b_var 0) (b_of p_int) (fun _ _ => rfl)) a_nil))))))
  ss_nil)
  (ss_one (s_ret (p_add (b_of p_int) (b_of (p_callTy call_int1 cb_int rfl C.z_int boot_int (a_consB (b_of (p_eq hr (b_of (p_at (b_var 0) (b_of p_int) (fun _ _ => rfl))) (b_of p_str))) a_nil))))))))
theorem b_l_others {P : Program} {w : World} {K : PySem.W.Frag} {mg : Str → Option Value} {base : Heap} {cA : Nat → Addr} {n : Nat} (C : Ct P w K mg base cA) (I : AllF P w K mg base cA n) {f : Addr} {cdv : Value} {A : Around} {outer : List Env} {s : Shared} {H : Hp} {E : XK} (hr : Room (n + 3) (A.deeper (PyProof.Rows.envOfC "_law_others" (defScope s_l_others) s.heap.objs.size f cdv))) :
    JSs (cxOf CX0 P w K mg base ["_law_prog", "_law_found"] "_law_others" (defScope s_l_others) f cdv A outer s H E).nox (pg cA) (defBody s_l_others) (d_l_others (gF n)) := by
  unfold d_l_others
  exact (ss_cons (s_own (i := 1) sc_l_others.nd rfl (Or.inl rfl) (n_lst (a_cons (p_tup (a_cons p_str a_nil)) (a_cons (p_tup (a_cons p_str a_nil)) a_nil))))
  (ss_cons (s_if (t_eq hr (b_of (p_at (b_var 0) (b_of p_int) (fun _ _ => rfl))) (b_of p_str))
  (ss_cons (s_expr (m_app 1 (m_of (p_at (b_var 0) (b_of p_int) (fun _ _ => rfl)))))
  (ss_one (s_ret (p_of_n (n_cat (b_var 1) (b_of (p_of_n (n_comp (own := ["_law_one"]) (caps := [("_law_prog", 0)]) ⟨rfl, by decide +kernel, by decide +kernel, ⟨⟨rfl, rfl, Or.inl rfl⟩, True.intro⟩, rfl⟩ rfl (s_list (b_of (p_fn I.h__law_others hr rfl (a_cons (p_at (b_var 0) (b_of p_int) (fun _ _ => rfl)) a_nil)))) (fun _ _ _ _ => (g_name (i := 0) (show (["_law_one", "_law_prog"] : List Str).Nodup by decide +kernel) rfl (Or.inl rfl))) (fun _ _ _ _ => ts_nil) (fun _ _ _ _ => (p_tup (a_cons p_str (a_cons (p_var 0) (a_cons (p_at (b_var 1) (b_of p_int) (fun _ _ => rfl)) a_nil))))) gk_set))) op_catL)))))
  ss_nil)
  (ss_cons (s_if (t_w (w_or (t_eq hr (b_of (p_at (b_var 0) (b_of p_int) (fun _ _ => rfl))) (b_of p_str)) (w_or1 (t_eq hr (b_of (p_at (b_var 0) (b_of p_int) (fun _ _ => rfl))) (b_of p_str)))))
  (ss_cons (s_own (i := 1) sc_l_others.nd rfl (Or.inl rfl) (n_cat (b_var 1) (b_of (p_of_n (n_lst (a_cons (p_at (b_var 0) (b_of p_int) (fun _ _ => rfl)) (a_cons (p_at (b_var 0) (b_of p_int) (fun _ _ => rfl)) a_nil))))) op_catL))
  (ss_cons (s_own (i := 1) sc_l_others.nd rfl (Or.inl rfl) (n_cat (b_var 1) (b_of (p_of_n (n_comp (own := ["_law_one"]) (caps := [("_law_prog", 0)]) ⟨rfl, by decide +kernel, by decide +kernel, ⟨⟨rfl, rfl, Or.inl rfl⟩, True.intro⟩, rfl⟩ rfl (s_list (b_of (p_fn I.h__law_others hr rfl (a_cons (p_at (b_var 0) (b_of p_int) (fun _ _ => rfl)) a_nil)))) (fun _ _ _ _ => (g_name (i := 0) (show (["_law_one", "_law_prog"] : List Str).Nodup by decide +kernel) rfl (Or.inl rfl))) (fun _ _ _ _ => ts_nil) (fun _ _ _ _ => (p_catT (p_tup (a_cons (p_at (b_var 1) (b_of p_int) (fun _ _ => rfl)) (a_cons (p_var 0) a_nil))) (p_cutT (p_var 1) (o_some p_int) o_none))) gk_set))) op_catL))
  (ss_one (s_own (i := 1) sc_l_others.nd rfl (Or.inl rfl) (n_cat (b_var 1) (b_of (p_of_n (n_comp (own := ["_law_one"]) (caps := [("_law_prog", 0)]) ⟨rfl, by decide +kernel, by decide +kernel, ⟨⟨rfl, rfl, Or.inl rfl⟩, True.intro⟩, rfl⟩ rfl (s_list (b_of (p_fn I.h__law_others hr rfl (a_cons (p_at (b_var 0) (b_of p_int) (fun _ _ => rfl)) a_nil)))) (fun _ _ _ _ => (g_name (i := 0) (show (["_law_one", "_law_prog"] : List Str).Nodup by decide +kernel) rfl (Or.inl rfl))) (fun _ _ _ _ => ts_nil) (fun _ _ _ _ => (p_catT (p_catT (p_cutT (p_var 1) o_none (o_some p_int)) (p_tup (a_cons (p_var 0) a_nil))) (p_cutT (p_var 1) (o_some p_int) o_none))) gk_set))) op_catL)))))
  ss_nil)
  (ss_one (s_retM (m_frz 1))))))
theorem b_law {P : Program} {w : World} {K : PySem.W.Frag} {mg : Str → Option Value} {base : Heap} {cA : Nat → Addr} {n : Nat} (C : Ct P w K mg base cA) (I : AllF P w K mg base cA n) {f : Addr} {cdv : Value} {A : Around} {outer : List Env} {s : Shared} {H : Hp} {E : XK} (hr : Room (n + 3) (A.deeper (PyProof.Rows.envOfC "law" (defScope s_law) s.heap.objs.size f cdv))) :
    JSs (cxOf CX0 P w K mg base ["_law_script", "_law_cell", "_law_step", "_law_prog", "_law_weight_here", "_law_due", "_law_found", "_law_one"] "law" (defScope s_law) f cdv A outer s H E).nox (pg cA) (defBody s_law) (d_law (gF n)) := by
  unfold d_law
  exact (ss_cons (s_set (i := 1) sc_law.nd rfl (Or.inl rfl) (p_fn I.h__law_cell_at hr rfl (a_cons (p_var 0) (a_cons p_int a_nil))))
  (ss_cons (s_set (i := 2) sc_law.nd rfl (Or.inl rfl) (p_at (b_of (p_of_n (n_lst (a_cons (p_new (k := n + 1) C.n_Deed hr rfl (a_cons (p_at (b_of p_str) (b_of (p_mod (b_of (p_div (b_var 1) (b_of p_int))) (b_of p_int))) (fun _ _ => rfl)) a_nil) rfl) (a_cons (p_new0 C.k_Skip rfl rfl C.c_Skip) (a_cons (p_new0 C.k_Stop rfl rfl C.c_Stop) (a_cons (p_new (k := n + 1) C.n_Deed hr rfl (a_cons p_str a_nil) rfl) a_nil))))))) (b_of (p_mod (b_var 1) (b_of p_int))) (fun _ _ => rfl)))
  (ss_cons (s_if (t_eq hr (b_of (p_mod (b_of (p_div (b_var 1) (b_of p_int))) (b_of p_int))) (b_of p_int))
  (ss_cons (s_for PassesOwn.never rfl (DN.i_list (p_of_n (n_cut (b_var 0) (o_some p_int) (o_some p_int)))) (g_name (i := 7) sc_law.nd rfl (Or.inl rfl))
  (ss_one (s_set (i := 2) sc_law.nd rfl (Or.inl rfl) (p_fn I.h__law_grown hr rfl (a_cons (p_var 2) (a_cons (p_var 7) a_nil))))))
  (ss_one (s_set (i := 2) sc_law.nd rfl (Or.inl rfl) (p_at (b_of (p_of_n (n_lst (a_cons (p_new (k := n + 1) C.n_Choice hr rfl (a_cons (p_new (k := n + 1) C.n_Named hr rfl (a_cons p_str a_nil) rfl) (a_cons (p_var 2) (a_cons (p_var 2) a_nil))) rfl) (a_cons (p_new (k := n + 1) C.n_Row hr rfl (a_cons (p_var 2) (a_cons (p_var 2) a_nil)) rfl) a_nil))))) (b_of (p_mod (b_of (p_div (b_var 1) (b_of p_int))) (b_of p_int))) (fun _ _ => rfl)))))
  (ss_one (s_for PassesOwn.never rfl (DN.i_list (p_of_n (n_cut (b_var 0) (o_some p_int) (o_some p_int)))) (g_name (i := 7) sc_law.nd rfl (Or.inl rfl))
  (ss_one (s_set (i := 2) sc_law.nd rfl (Or.inl rfl) (p_fn I.h__law_grown hr rfl (a_cons (p_var 2) (a_cons (p_var 7) a_nil))))))))
  (ss_cons (s_set (i := 3) sc_law.nd rfl (Or.inl rfl) (p_fn I.h__law_taken hr rfl (a_cons (p_var 2) a_nil)))
  (ss_cons (s_set (i := 4) sc_law.nd rfl (Or.inr rfl) (p_fn I.h_weight_of hr rfl (a_cons (p_var 2) a_nil)))
  (ss_cons (s_if (t_w (w_or (t_not (t_val (p_isi rfl C.z_isinstance C.i_int ty_only (b_var 4) (pe_type rfl C.z_int boot_int)))) (w_or (t_val (p_isi rfl C.z_isinstance C.i_bool ty_only (b_var 4) (pe_type rfl C.z_bool boot_bool))) (w_or1 (t_ne hr (b_var 4) (b_of (p_fn I.h__law_weight hr rfl (a_cons (p_var 3) a_nil))))))))
  (ss_one (s_ret p_bl))
  ss_nil)
  (ss_cons (s_setC (i := 5) sc_law.nd rfl (Or.inl rfl) (own := ["_law_one"]) (caps := [("_law_weight_here", 4)]) ⟨rfl, by decide +kernel, by decide +kernel, ⟨⟨rfl, rfl, Or.inl rfl⟩, True.intro⟩, rfl⟩ rfl (s_list (b_of (p_fn I.h__law_others hr rfl (a_cons (p_var 3) a_nil)))) (fun _ _ _ _ => (g_name (i := 0) (show (["_law_one", "_law_weight_here"] : List Str).Nodup by decide +kernel) rfl (Or.inl rfl))) (fun _ _ _ _ => (ts_one (t_lt (b_of (p_fn I.h__law_weight hr rfl (a_cons (p_var 0) a_nil))) (b_var 1)))) (fun _ _ _ _ => (p_var 0)) gk_set)
  (ss_cons (s_own (i := 6) sc_law.nd rfl (Or.inl rfl) (n_fn I.k_shorter hr rfl (a_cons (p_var 2) a_nil)))
  (ss_cons (s_if (t_w (w_or (t_not (t_val (p_isi rfl C.z_isinstance C.i_list ty_only (b_var 6) (pe_type rfl C.z_list boot_list)))) (w_or1 (t_ne hr (b_of (p_of_n (n_comp (own := ["_law_one"]) (caps := []) ⟨rfl, by decide +kernel, by decide +kernel, True.intro, rfl⟩ rfl (s_list (b_var 6)) (fun _ _ _ _ => (g_name (i := 0) (show (["_law_one"] : List Str).Nodup by decide +kernel) rfl (Or.inl rfl))) (fun _ _ _ _ => ts_nil) (fun _ _ _ _ => (p_fn I.h__law_taken hr rfl (a_cons (p_var 0) a_nil))) gk_set))) (b_var 5)))))
  (ss_one (s_ret p_bl))
  ss_nil)
  (ss_cons (s_if (t_ne hr (b_of (p_of_n (n_comp (own := ["_law_one"]) (caps := []) ⟨rfl, by decide +kernel, by decide +kernel, True.intro, rfl⟩ rfl (s_list (b_var 6)) (fun _ _ _ _ => (g_name (i := 0) (show (["_law_one"] : List Str).Nodup by decide +kernel) rfl (Or.inl rfl))) (fun _ _ _ _ => ts_nil) (fun _ _ _ _ => (p_fn I.h_weight_of hr rfl (a_cons (p_var 0) a_nil))) gk_set))) (b_of (p_of_n (n_comp (own := ["_law_one"]) (caps := []) ⟨rfl, by decide +kernel, by decide +kernel, True.intro, rfl⟩ rfl (s_list (b_var 5)) (fun _ _ _ _ => (g_name (i := 0) (show (["_law_one"] : List Str).Nodup by decide +kernel) rfl (Or.inl rfl))) (fun _ _ _ _ => ts_nil) (fun _ _ _ _ => (p_fn I.h__law_weight hr rfl (a_cons (p_var 0) a_nil))) gk_set))))
  (ss_one (s_ret p_bl))
  ss_nil)
  (ss_cons (s_expr (m_clr 6))
  (ss_one (s_ret (p_andV (p_eq hr (b_of (p_callB call_len cb_len rfl C.z_len PySem.boot_len (a_consB (b_of (p_of_n (n_fn I.k_shorter hr rfl (a_cons (p_var 2) a_nil)))) a_nil))) (b_of (p_callB call_len cb_len rfl C.z_len PySem.boot_len (a_consB (b_var 5) a_nil)))) (p_one (p_eq hr (b_of (p_fn I.h__law_taken hr rfl (a_cons (p_var 2) a_nil))) (b_var 3)))))))))))))))))
theorem b_Yes_holds {P : Program} {w : World} {K : PySem.W.Frag} {mg : Str → Option Value} {base : Heap} {cA : Nat → Addr} {n : Nat} (C : Ct P w K mg base cA) (I : AllF P w K mg base cA n) {f : Addr} {cdv : Value} {A : Around} {outer : List Env} {s : Shared} {H : Hp} {E : XK} (hr : Room (n + 3) (A.deeper (PyProof.Rows.envOfC "Yes.holds" (defScope s_Yes_holds) s.heap.objs.size f cdv))) :
    JSs (cxOf CX0 P w K mg base ["self", "setting"] "Yes.holds" (defScope s_Yes_holds) f cdv A outer s H E).nox (pg cA) (defBody s_Yes_holds) (d_Yes_holds (gF n)) := by
  unfold d_Yes_holds
  exact (ss_one (s_ret p_bl))
theorem b_Named_holds {P : Program} {w : World} {K : PySem.W.Frag} {mg : Str → Option Value} {base : Heap} {cA : Nat → Addr} {n : Nat} (C : Ct P w K mg base cA) (I : AllF P w K mg base cA n) {f : Addr} {cdv : Value} {A : Around} {outer : List Env} {s : Shared} {H : Hp} {E : XK} (hr : Room (n + 3) (A.deeper (PyProof.Rows.envOfC "Named.holds" (defScope s_Named_holds) s.heap.objs.size f cdv))) :
    JSs (cxOf CX0 P w K mg base ["self", "setting"] "Named.holds" (defScope s_Named_holds) f cdv A outer s H E).nox (pg cA) (defBody s_Named_holds) (d_Named_holds (gF n)) := by
  obtain ⟨_, g_LETTERS, t_LETTERS⟩ := C.e_LETTERS
  unfold d_Named_holds
  exact (ss_one (s_ret (p_eq hr (b_of (p_and (b_of (p_shr (b_var 1) (b_of (p_index (ws := c_LETTERS) t_LETTERS rfl g_LETTERS (fun _ _ => ⟨_, _, rfl, rfl, ⟨_, _, rfl, rfl, ⟨_, _, rfl, rfl, ⟨_, _, rfl, rfl, rfl⟩⟩⟩⟩) rfl (p_fld C.f_name (p_var 0) rfl))))) (b_of p_int))) (b_of p_int))))
theorem b_Not_holds {P : Program} {w : World} {K : PySem.W.Frag} {mg : Str → Option Value} {base : Heap} {cA : Nat → Addr} {n : Nat} (C : Ct P w K mg base cA) (I : AllF P w K mg base cA n) {f : Addr} {cdv : Value} {A : Around} {outer : List Env} {s : Shared} {H : Hp} {E : XK} (hr : Room (n + 3) (A.deeper (PyProof.Rows.envOfC "Not.holds" (defScope s_Not_holds) s.heap.objs.size f cdv))) :
    JSs (cxOf CX0 P w K mg base ["self", "setting"] "Not.holds" (defScope s_Not_holds) f cdv A outer s H E).nox (pg cA) (defBody s_Not_holds) (d_Not_holds (gF n)) := by
  unfold d_Not_holds
  exact (ss_one (s_ret (p_notV (p_meth I.m_holds hr (p_fld C.f_inner (p_var 0) rfl) (a_cons (p_var 1) a_nil)))))
theorem b_Both_holds {P : Program} {w : World} {K : PySem.W.Frag} {mg : Str → Option Value} {base : Heap} {cA : Nat → Addr} {n : Nat} (C : Ct P w K mg base cA) (I : AllF P w K mg base cA n) {f : Addr} {cdv : Value} {A : Around} {outer : List Env} {s : Shared} {H : Hp} {E : XK} (hr : Room (n + 3) (A.deeper (PyProof.Rows.envOfC "Both.holds" (defScope s_Both_holds) s.heap.objs.size f cdv))) :
    JSs (cxOf CX0 P w K mg base ["self", "setting"] "Both.holds" (defScope s_Both_holds) f cdv A outer s H E).nox (pg cA) (defBody s_Both_holds) (d_Both_holds (gF n)) := by
  unfold d_Both_holds
  exact (ss_one (s_ret (p_andV (p_meth I.m_holds hr (p_fld C.f_left (p_var 0) rfl) (a_cons (p_var 1) a_nil)) (p_one (p_meth I.m_holds hr (p_fld C.f_right (p_var 0) rfl) (a_cons (p_var 1) a_nil))))))
theorem b_Either_holds {P : Program} {w : World} {K : PySem.W.Frag} {mg : Str → Option Value} {base : Heap} {cA : Nat → Addr} {n : Nat} (C : Ct P w K mg base cA) (I : AllF P w K mg base cA n) {f : Addr} {cdv : Value} {A : Around} {outer : List Env} {s : Shared} {H : Hp} {E : XK} (hr : Room (n + 3) (A.deeper (PyProof.Rows.envOfC "Either.holds" (defScope s_Either_holds) s.heap.objs.size f cdv))) :
    JSs (cxOf CX0 P w K mg base ["self", "setting"] "Either.holds" (defScope s_Either_holds) f cdv A outer s H E).nox (pg cA) (defBody s_Either_holds) (d_Either_holds (gF n)) := by
  unfold d_Either_holds
  exact (ss_one (s_ret (p_orV (p_meth I.m_holds hr (p_fld C.f_left (p_var 0) rfl) (a_cons (p_var 1) a_nil)) (p_one (p_meth I.m_holds hr (p_fld C.f_right (p_var 0) rfl) (a_cons (p_var 1) a_nil))))))
structure Fs (K : PySem.W.Frag) (mg : Str → Option Value) (cA : Nat → Addr) : Prop where
  F_weight_of : ∃ f fd, DefF K mg "weight_of" s_weight_of ["step"] f fd
  F_own_programs : ∃ f fd, DefF K mg "own_programs" s_own_programs ["step"] f fd
  F_with_own : ∃ f fd, DefF K mg "with_own" s_with_own ["step", "number", "own"] f fd
  F_shorter : ∃ f fd, DefF K mg "shorter" s_shorter ["step"] f fd
  F_l_cell_at : ∃ f fd, DefF K mg "_law_cell_at" s_l_cell_at ["_law_script", "_law_k"] f fd
  F_l_draw : ∃ f fd, DefF K mg "_law_draw" s_l_draw ["_law_cell", "_law_k"] f fd
  F_l_sign : ∃ f fd, DefF K mg "_law_sign" s_l_sign ["_law_test_here"] f fd
  F_l_test : ∃ f fd, DefF K mg "_law_test" s_l_test ["_law_cell"] f fd
  F_l_mask : ∃ f fd, DefF K mg "_law_mask" s_l_mask ["_law_sign_here"] f fd
  F_l_grown : ∃ f fd, DefF K mg "_law_grown" s_l_grown ["_law_step", "_law_cell"] f fd
  F_l_taken : ∃ f fd, DefF K mg "_law_taken" s_l_taken ["_law_step"] f fd
  F_l_weight : ∃ f fd, DefF K mg "_law_weight" s_l_weight ["_law_prog"] f fd
  F_l_others : ∃ f fd, DefF K mg "_law_others" s_l_others ["_law_prog"] f fd
  F_law : ∃ f fd, DefF K mg "law" s_law ["_law_script"] f fd
  F_Yes_holds : ∃ f fd, Fun K "holds" "Yes.holds" s_Yes_holds f fd ∧ Binds K fd ["self", "setting"] [] ∧ Meth K ((pg cA).cA 1) "holds" f
  F_Named_holds : ∃ f fd, Fun K "holds" "Named.holds" s_Named_holds f fd ∧ Binds K fd ["self", "setting"] [] ∧ Meth K ((pg cA).cA 2) "holds" f
  F_Not_holds : ∃ f fd, Fun K "holds" "Not.holds" s_Not_holds f fd ∧ Binds K fd ["self", "setting"] [] ∧ Meth K ((pg cA).cA 3) "holds" f
  F_Both_holds : ∃ f fd, Fun K "holds" "Both.holds" s_Both_holds f fd ∧ Binds K fd ["self", "setting"] [] ∧ Meth K ((pg cA).cA 4) "holds" f
  F_Either_holds : ∃ f fd, Fun K "holds" "Either.holds" s_Either_holds f fd ∧ Binds K fd ["self", "setting"] [] ∧ Meth K ((pg cA).cA 5) "holds" f
theorem all_fn {P : Program} {w : World} {K : PySem.W.Frag} {mg : Str → Option Value} {base : Heap} {cA : Nat → Addr} (C : Ct P w K mg base cA) (F : Fs K mg cA) : ∀ n, AllF P w K mg base cA n
  | 0 => by
    obtain ⟨f_weight_of, fd_weight_of, E_weight_of⟩ := F.F_weight_of
    obtain ⟨f_own_programs, fd_own_programs, E_own_programs⟩ := F.F_own_programs
    obtain ⟨f_with_own, fd_with_own, E_with_own⟩ := F.F_with_own
    obtain ⟨f_shorter, fd_shorter, E_shorter⟩ := F.F_shorter
    obtain ⟨f_l_cell_at, fd_l_cell_at, E_l_cell_at⟩ := F.F_l_cell_at
    obtain ⟨f_l_draw, fd_l_draw, E_l_draw⟩ := F.F_l_draw
    obtain ⟨f_l_sign, fd_l_sign, E_l_sign⟩ := F.F_l_sign
    obtain ⟨f_l_test, fd_l_test, E_l_test⟩ := F.F_l_test
    obtain ⟨f_l_mask, fd_l_mask, E_l_mask⟩ := F.F_l_mask
    obtain ⟨f_l_grown, fd_l_grown, E_l_grown⟩ := F.F_l_grown
    obtain ⟨f_l_taken, fd_l_taken, E_l_taken⟩ := F.F_l_taken
    obtain ⟨f_l_weight, fd_l_weight, E_l_weight⟩ := F.F_l_weight
    obtain ⟨f_l_others, fd_l_others, E_l_others⟩ := F.F_l_others
    obtain ⟨f_law, fd_law, E_law⟩ := F.F_law
    obtain ⟨f_Yes_holds, fd_Yes_holds, F_Yes_holds, B_Yes_holds, M_Yes_holds_1⟩ := F.F_Yes_holds
    obtain ⟨f_Named_holds, fd_Named_holds, F_Named_holds, B_Named_holds, M_Named_holds_2⟩ := F.F_Named_holds
    obtain ⟨f_Not_holds, fd_Not_holds, F_Not_holds, B_Not_holds, M_Not_holds_3⟩ := F.F_Not_holds
    obtain ⟨f_Both_holds, fd_Both_holds, F_Both_holds, B_Both_holds, M_Both_holds_4⟩ := F.F_Both_holds
    obtain ⟨f_Either_holds, fd_Either_holds, F_Either_holds, B_Either_holds, M_Either_holds_5⟩ := F.F_Either_holds
    exact {
      h_weight_of := E_weight_of.at (spG_none fun _ => rfl)
      h_own_programs := E_own_programs.at (spG_none fun _ => rfl)
      h_with_own := E_with_own.at (spG_none fun _ => rfl)
      k_shorter := E_shorter.at (spN_none fun _ => rfl)
      h_shorter := (E_shorter.at (spN_none fun _ => rfl)).imp (spN_G (w_shorter _))
      h__law_cell_at := E_l_cell_at.at (spG_none fun _ => rfl)
      h__law_draw := E_l_draw.at (spG_none fun _ => rfl)
      h__law_sign := E_l_sign.at (spG_none fun _ => rfl)
      h__law_test := E_l_test.at (spG_none fun _ => rfl)
      h__law_mask := E_l_mask.at (spG_none fun _ => rfl)
      h__law_grown := E_l_grown.at (spG_none fun _ => rfl)
      h__law_taken := E_l_taken.at (spG_none fun _ => rfl)
      h__law_weight := E_l_weight.at (spG_none fun _ => rfl)
      h__law_others := E_l_others.at (spG_none fun _ => rfl)
      h_law := E_law.at (spG_none fun _ => rfl)
      m_holds := (mt_cons ⟨C.l_Yes.cls, _, _, _, M_Yes_holds_1, (spG_none fun _ => rfl), B_Yes_holds⟩ (show ("holds" : Str) ∉ fN 1 by decide +kernel) (mt_cons ⟨C.l_Named.cls, _, _, _, M_Named_holds_2, (spG_none fun _ => rfl), B_Named_holds⟩ (show ("holds" : Str) ∉ fN 2 by decide +kernel) (mt_cons ⟨C.l_Not.cls, _, _, _, M_Not_holds_3, (spG_none fun _ => rfl), B_Not_holds⟩ (show ("holds" : Str) ∉ fN 3 by decide +kernel) (mt_cons ⟨C.l_Both.cls, _, _, _, M_Both_holds_4, (spG_none fun _ => rfl), B_Both_holds⟩ (show ("holds" : Str) ∉ fN 4 by decide +kernel) (mt_cons ⟨C.l_Either.cls, _, _, _, M_Either_holds_5, (spG_none fun _ => rfl), B_Either_holds⟩ (show ("holds" : Str) ∉ fN 5 by decide +kernel) mt_nil)))))
    }
  | n + 1 => by
    have I := all_fn C F n
    obtain ⟨f_weight_of, fd_weight_of, E_weight_of⟩ := F.F_weight_of
    obtain ⟨f_own_programs, fd_own_programs, E_own_programs⟩ := F.F_own_programs
    obtain ⟨f_with_own, fd_with_own, E_with_own⟩ := F.F_with_own
    obtain ⟨f_shorter, fd_shorter, E_shorter⟩ := F.F_shorter
    obtain ⟨f_l_cell_at, fd_l_cell_at, E_l_cell_at⟩ := F.F_l_cell_at
    obtain ⟨f_l_draw, fd_l_draw, E_l_draw⟩ := F.F_l_draw
    obtain ⟨f_l_sign, fd_l_sign, E_l_sign⟩ := F.F_l_sign
    obtain ⟨f_l_test, fd_l_test, E_l_test⟩ := F.F_l_test
    obtain ⟨f_l_mask, fd_l_mask, E_l_mask⟩ := F.F_l_mask
    obtain ⟨f_l_grown, fd_l_grown, E_l_grown⟩ := F.F_l_grown
    obtain ⟨f_l_taken, fd_l_taken, E_l_taken⟩ := F.F_l_taken
    obtain ⟨f_l_weight, fd_l_weight, E_l_weight⟩ := F.F_l_weight
    obtain ⟨f_l_others, fd_l_others, E_l_others⟩ := F.F_l_others
    obtain ⟨f_law, fd_law, E_law⟩ := F.F_law
    obtain ⟨f_Yes_holds, fd_Yes_holds, F_Yes_holds, B_Yes_holds, M_Yes_holds_1⟩ := F.F_Yes_holds
    obtain ⟨f_Named_holds, fd_Named_holds, F_Named_holds, B_Named_holds, M_Named_holds_2⟩ := F.F_Named_holds
    obtain ⟨f_Not_holds, fd_Not_holds, F_Not_holds, B_Not_holds, M_Not_holds_3⟩ := F.F_Not_holds
    obtain ⟨f_Both_holds, fd_Both_holds, F_Both_holds, B_Both_holds, M_Both_holds_4⟩ := F.F_Both_holds
    obtain ⟨f_Either_holds, fd_Either_holds, F_Either_holds, B_Either_holds, M_Either_holds_5⟩ := F.F_Either_holds
    exact {
      h_weight_of := E_weight_of.at ((fn_ok E_weight_of.F sc_weight_of rfl fun _ _ _ _ _ _ hr => b_weight_of C I hr))
      h_own_programs := E_own_programs.at ((fn_ok E_own_programs.F sc_own_programs rfl fun _ _ _ _ _ _ hr => b_own_programs C I hr))
      h_with_own := E_with_own.at ((fn_ok E_with_own.F sc_with_own rfl fun _ _ _ _ _ _ hr => b_with_own C I hr))
      k_shorter := E_shorter.at ((fn_okN E_shorter.F sc_shorter rfl fun _ _ _ _ _ _ hr => b_shorter C I hr))
      h_shorter := (E_shorter.at ((fn_okN E_shorter.F sc_shorter rfl fun _ _ _ _ _ _ hr => b_shorter C I hr))).imp (spN_G (w_shorter _))
      h__law_cell_at := E_l_cell_at.at ((fn_ok E_l_cell_at.F sc_l_cell_at rfl fun _ _ _ _ _ _ hr => b_l_cell_at C I hr))
      h__law_draw := E_l_draw.at ((fn_ok E_l_draw.F sc_l_draw rfl fun _ _ _ _ _ _ hr => b_l_draw C I hr))
      h__law_sign := E_l_sign.at ((fn_ok E_l_sign.F sc_l_sign rfl fun _ _ _ _ _ _ hr => b_l_sign C I hr))
      h__law_test := E_l_test.at ((fn_ok E_l_test.F sc_l_test rfl fun _ _ _ _ _ _ hr => b_l_test C I hr))
      h__law_mask := E_l_mask.at ((fn_ok E_l_mask.F sc_l_mask rfl fun _ _ _ _ _ _ hr => b_l_mask C I hr))
      h__law_grown := E_l_grown.at ((fn_ok E_l_grown.F sc_l_grown rfl fun _ _ _ _ _ _ hr => b_l_grown C I hr))
      h__law_taken := E_l_taken.at ((fn_ok E_l_taken.F sc_l_taken rfl fun _ _ _ _ _ _ hr => b_l_taken C I hr))
      h__law_weight := E_l_weight.at ((fn_ok E_l_weight.F sc_l_weight rfl fun _ _ _ _ _ _ hr => b_l_weight C I hr))
      h__law_others := E_l_others.at ((fn_ok E_l_others.F sc_l_others rfl fun _ _ _ _ _ _ hr => b_l_others C I hr))
      h_law := E_law.at ((fn_ok E_law.F sc_law rfl fun _ _ _ _ _ _ hr => b_law C I hr))
      m_holds := (mt_cons ⟨C.l_Yes.cls, _, _, _, M_Yes_holds_1, (fn_ok F_Yes_holds sc_Yes_holds rfl fun _ _ _ _ _ _ hr => b_Yes_holds C I hr), B_Yes_holds⟩ (show ("holds" : Str) ∉ fN 1 by decide +kernel) (mt_cons ⟨C.l_Named.cls, _, _, _, M_Named_holds_2, (fn_ok F_Named_holds sc_Named_holds rfl fun _ _ _ _ _ _ hr => b_Named_holds C I hr), B_Named_holds⟩ (show ("holds" : Str) ∉ fN 2 by decide +kernel) (mt_cons ⟨C.l_Not.cls, _, _, _, M_Not_holds_3, (fn_ok F_Not_holds sc_Not_holds rfl fun _ _ _ _ _ _ hr => b_Not_holds C I hr), B_Not_holds⟩ (show ("holds" : Str) ∉ fN 3 by decide +kernel) (mt_cons ⟨C.l_Both.cls, _, _, _, M_Both_holds_4, (fn_ok F_Both_holds sc_Both_holds rfl fun _ _ _ _ _ _ hr => b_Both_holds C I hr), B_Both_holds⟩ (show ("holds" : Str) ∉ fN 4 by decide +kernel) (mt_cons ⟨C.l_Either.cls, _, _, _, M_Either_holds_5, (fn_ok F_Either_holds sc_Either_holds rfl fun _ _ _ _ _ _ hr => b_Either_holds C I hr), B_Either_holds⟩ (show ("holds" : Str) ∉ fN 5 by decide +kernel) mt_nil)))))
    }
end M71
end
section
set_option Elab.async false
set_option linter.all false
set_option maxRecDepth 100000
set_option maxHeartbeats 4000000
namespace M71
open PySem L2 DN
/-! ### tests -/
inductive Tr where
  | yes | named (c : Str) | neg (t : Tr) | both (l r : Tr) | either (l r : Tr)
def Tr.pv : Tr → PV
  | .yes => .obj 1 [] | .named c => .obj 2 [.str c] | .neg t => .obj 3 [t.pv] | .both l r => .obj 4 [l.pv, r.pv] | .either l r => .obj 5 [l.pv, r.pv]
def Tr.depth : Tr → Nat
  | .yes => 0 | .named _ => 0 | .neg t => t.depth + 1 | .both l r => max l.depth r.depth + 1 | .either l r => max l.depth r.depth + 1
def Tr.size : Tr → Nat
  | .yes => 1 | .named _ => 1 | .neg t => t.size + 1 | .both l r => l.size + r.size + 1 | .either l r => l.size + r.size + 1
def Letter (c : Str) : Prop := c = "a" ∨ c = "b" ∨ c = "c" ∨ c = "d"
def Tr.ok : Tr → Prop
  | .yes => True | .named c => Letter c | .neg t => t.ok | .both l r => l.ok ∧ r.ok | .either l r => l.ok ∧ r.ok
def ixL (c : Str) : Nat := if c = "a" then 0 else if c = "b" then 1 else if c = "c" then 2 else 3
def Tr.at : Tr → Int → Bool
  | .yes, _ => true
  | .named c, s => Builtin.bitAnd (s / 2 ^ ((ixL c : Nat) : Int).toNat) 1 == 1
  | .neg t, s => !t.at s
  | .both l r, s => l.at s && r.at s
  | .either l r, s => l.at s || r.at s
theorem holds_ok : ∀ (t : Tr) (n : Nat) (s : Int), t.ok → t.depth < n → callM q_holds (gF n) t.pv [.int s] = .ok (.bl (t.at s))
  | .yes, n + 1, s, _, _ => rfl
  | .named c, n + 1, s, h, _ => by
    rcases h with rfl | rfl | rfl | rfl <;> rfl
  | .neg t, n + 1, s, h, hd => by
    have ih := holds_ok t n s h (Nat.lt_of_succ_lt_succ hd)
    have e : callM q_holds (gF (n + 1)) (Tr.neg t).pv [.int s] = fin ((((callM q_holds (gF n) t.pv [.int s]).bind fun x => match x with | .bl k => Rx.ok (PV.bl (!k)) | _ => .bad)).st fun w => .ret w) := rfl
    rw [e, ih]; rfl
  | .both l r, n + 1, s, h, hd => by
    have hd' : max l.depth r.depth + 1 < n + 1 := hd
    have i1 := holds_ok l n s h.1 (by omega)
    have i2 := holds_ok r n s h.2 (by omega)
    have e : callM q_holds (gF (n + 1)) (Tr.both l r).pv [.int s] = fin ((((callM q_holds (gF n) l.pv [.int s]).bind fun x => match x with | .bl true => callM q_holds (gF n) r.pv [.int s] | .bl false => .ok (.bl false) | _ => .bad)).st fun w => .ret w) := rfl
    rw [e, i1, i2]
    show _ = Rx.ok (PV.bl (l.at s && r.at s))
    cases l.at s <;> rfl
  | .either l r, n + 1, s, h, hd => by
    have hd' : max l.depth r.depth + 1 < n + 1 := hd
    have i1 := holds_ok l n s h.1 (by omega)
    have i2 := holds_ok r n s h.2 (by omega)
    have e : callM q_holds (gF (n + 1)) (Tr.either l r).pv [.int s] = fin ((((callM q_holds (gF n) l.pv [.int s]).bind fun x => match x with | .bl true => .ok (.bl true) | .bl false => callM q_holds (gF n) r.pv [.int s] | _ => .bad)).st fun w => .ret w) := rfl
    rw [e, i1, i2]
    show _ = Rx.ok (PV.bl (l.at s || r.at s))
    cases l.at s <;> rfl
theorem cell_ok (n : Nat) (ns : List Int) (k : Nat) : ∃ z, gF (n + 1) 4 [.lst (ns.map PV.int), .int (k : Int)] = .ok (.int z) := by
  rw [g_l_cell_at, runD_of rfl]
  show ∃ z, fin (d_l_cell_at (gF n) [.v (.lst (ns.map PV.int)), .v (.int (k : Int))]) = .ok (.int z)
  unfold d_l_cell_at
  by_cases h : k < ns.length
  · have hi : atI (ns.map PV.int) (k : Int) = some (PV.int ns[k]) := by
      rw [atI_nat (by rw [List.getElem?_map, List.getElem?_eq_getElem h]; rfl)]
    exact ⟨ns[k], by simp [h, hi]⟩
  · exact ⟨0, by simp [h]⟩
theorem sum_mask (f : Nat → Bool) : ∀ n, (((List.range n).filter f).map (fun (i : Nat) => (1 : Int) * 2 ^ i)).sum = (maskN f n : Nat)
  | 0 => rfl
  | n + 1 => by
    rw [List.range_succ, List.filter_append, List.map_append, List.sum_append, sum_mask f n]
    show _ = (((2 ^ n * (f n).toNat + maskN f n : Nat)) : Int)
    cases h : f n
    · simp [h]
    · simp [h, Int.add_comm]
def Tr.f (t : Tr) (i : Nat) : Bool := t.at (i : Int)
def Tr.mk (t : Tr) : Nat := maskN t.f 16
theorem lmask_ok (t : Tr) (n : Nat) (h : t.ok) (hd : t.depth < n) : gF (n + 1) 8 [t.pv] = .ok (.int (t.mk : Nat)) := by
  rw [g_l_mask, runD_of rfl]
  show fin (d_l_mask (gF n) [.v t.pv]) = _
  have e : rngP 0 16 = (List.range 16).map fun (i : Nat) => PV.int (i : Int) := by
    unfold rngP
    apply List.map_congr_left
    intro i _
    rw [Int.zero_add]
  have hc : dComp ["_law_s"] [("_law_sign_here", 0)] (dRng1 (dCons (dC (.int 16)) dNil)) (gSet 0) (dTr (dMeth q_holds (gF n) (dVar 1) (dCons (dVar 0) dNil))) (d2 fShl (dC (.int 1)) (dSee 0)) [.v t.pv]
      = .ok (((List.range 16).filter t.f).map fun (i : Nat) => PV.int ((1 : Int) * 2 ^ i)) := by
    show (if (rngP 0 16).length ≤ sizeLine then compD (gSet 0) _ _ (rngP 0 16) [.no, .v t.pv] else .bad) = _
    rw [if_pos (by show 16 ≤ sizeLine; decide), e]
    refine comp_emb (fun (i : Nat) => PV.int (i : Int)) t.f (fun (i : Nat) => PV.int ((1 : Int) * 2 ^ i)) (List.range 16) .no fun i hi => ⟨?_, fun _ => ?_⟩
    · rw [e_Tr, e_meth]
      show (((Rx.ok t.pv).bind fun x => callD q_holds (gF n) x (.ok [.int (i : Int)])).bind _) = _
      rw [ok_bind, callD_ok, holds_ok t n _ h hd]; rfl
    · have := List.mem_range.mp hi
      show (if 0 ≤ (i : Int) ∧ (i : Int) ≤ 1000000 ∧ (1 : Int).natAbs < 2 ^ 64 then Rx.ok (PV.int (1 * 2 ^ (i : Int).toNat)) else .bad) = _
      rw [if_pos ⟨by omega, by omega, by decide⟩, Int.toNat_natCast]
  have q := sum_mask t.f 16
  have bs : bSum [.lst (((List.range 16).filter t.f).map fun (i : Nat) => PV.int ((1 : Int) * 2 ^ i))] = .ok (.int (t.mk : Nat)) := by
    show (match intsOf (((List.range 16).filter t.f).map fun (i : Nat) => PV.int ((1 : Int) * 2 ^ i)) with | some ns => Rx.ok (PV.int ns.sum) | none => .bad) = _
    rw [intsOf_emb (fun (i : Nat) => (1 : Int) * 2 ^ i)]
    show Rx.ok (PV.int _) = _
    rw [q]; rfl
  unfold d_l_mask
  simp only [e_ret, e_call, e_cons, e_ofN, hc, ok_bind, e_nil, consR_ok, bs, ok_st, fin_ret]
/-! ### programs -/
inductive St where
  | skip | stop | deed (c : Str) | row (h t : St) | choice (g : Tr) (y n : St) | loop (g : Tr) (b : St)
def St.pv : St → PV
  | .skip => .obj 7 [] | .stop => .obj 8 [] | .deed c => .obj 9 [.str c] | .row h t => .obj 10 [h.pv, t.pv] | .choice g y n => .obj 11 [g.pv, y.pv, n.pv] | .loop g b => .obj 12 [g.pv, b.pv]
def St.depth : St → Nat
  | .skip => 0 | .stop => 0 | .deed _ => 0 | .row h t => max h.depth t.depth + 1 | .choice g y n => max g.depth (max y.depth n.depth) + 1 | .loop g b => max g.depth b.depth + 1
def St.size : St → Nat
  | .skip => 1 | .stop => 1 | .deed _ => 1 | .row h t => h.size + t.size + 1 | .choice g y n => g.size + y.size + n.size + 1 | .loop g b => g.size + b.size + 1
def DeedL (c : Str) : Prop := c = "P" ∨ c = "Q" ∨ c = "R" ∨ c = "S" ∨ c = "T"
def St.ok : St → Prop
  | .skip => True | .stop => True | .deed c => DeedL c | .row h t => h.ok ∧ t.ok | .choice g y n => g.ok ∧ y.ok ∧ n.ok | .loop g b => g.ok ∧ b.ok
/-! ### the programs that are grown -/
theorem draw_ok (n : Nat) (z k : Int) (h0 : 0 ≤ k) (h1 : k ≤ 1000000) : ∃ y, gF (n + 1) 5 [.int z, .int k] = .ok (.int y) ∧ 0 ≤ y := by
  rw [g_l_draw, runD_of rfl]
  have ei : inP [false, false] 3 [.int z, .int k] = [.v (.int z), .v (.int k), .no] := rfl
  rw [ei]
  unfold d_l_draw
  have a1 : ((z + 7919 * k + 1) * 48271 % 2147483647) < 2147483647 := by omega
  have a2 : 0 ≤ ((z + 7919 * k + 1) * 48271 % 2147483647) := by omega
  generalize hw : ((z + 7919 * k + 1) * 48271 % 2147483647) = w at a1 a2
  refine ⟨w * (w / 1009 + 69621) % 2147483647, ?_, by omega⟩
  have b1 : (-18446744073709551616 < w ∧ w < 18446744073709551616) := by omega
  simp [hw, b1]
theorem abcd_at {j : Int} (h0 : 0 ≤ j) (h1 : j < 4) : ∃ c, fIx (.str "abcd") (.int j) = .ok (.str c) ∧ Letter c := by
  have : j = 0 ∨ j = 1 ∨ j = 2 ∨ j = 3 := by omega
  rcases this with rfl | rfl | rfl | rfl
  · exact ⟨"a", rfl, .inl rfl⟩
  · exact ⟨"b", rfl, .inr (.inl rfl)⟩
  · exact ⟨"c", rfl, .inr (.inr (.inl rfl))⟩
  · exact ⟨"d", rfl, .inr (.inr (.inr rfl))⟩
theorem deed_at {j : Int} (h0 : 0 ≤ j) (h1 : j < 5) : ∃ c, fIx (.str "PQRST") (.int j) = .ok (.str c) ∧ DeedL c := by
  have : j = 0 ∨ j = 1 ∨ j = 2 ∨ j = 3 ∨ j = 4 := by omega
  rcases this with rfl | rfl | rfl | rfl | rfl
  · exact ⟨"P", rfl, .inl rfl⟩
  · exact ⟨"Q", rfl, .inr (.inl rfl)⟩
  · exact ⟨"R", rfl, .inr (.inr (.inl rfl))⟩
  · exact ⟨"S", rfl, .inr (.inr (.inr (.inl rfl)))⟩
  · exact ⟨"T", rfl, .inr (.inr (.inr (.inr rfl)))⟩
theorem sign_ok (n : Nat) (k i j : Int) (hk : 0 ≤ k ∧ k < 6) (hi : 0 ≤ i ∧ i < 4) (hj : 0 ≤ j ∧ j < 4) : ∃ t : Tr, gF (n + 1) 6 [.tup [.int k, .int i, .int j]] = .ok t.pv ∧ t.ok ∧ t.depth ≤ 2 := by
  rw [g_l_sign, runD_of rfl]
  have ei : inP [false] 6 [.tup [.int k, .int i, .int j]] = [.v (.tup [.int k, .int i, .int j]), .no, .no, .no, .no, .no] := rfl
  rw [ei]
  obtain ⟨c, ec, oc⟩ := abcd_at hi.1 hi.2
  obtain ⟨c', ec', oc'⟩ := abcd_at hj.1 hj.2
  unfold d_l_sign
  have : k = 0 ∨ k = 1 ∨ k = 2 ∨ k = 3 ∨ k = 4 ∨ k = 5 := by omega
  rcases this with rfl | rfl | rfl | rfl | rfl | rfl
  · exact ⟨.named c, by simp [ec, ec']; rfl, oc, by simp [Tr.depth]⟩
  · exact ⟨.neg (.named c), by simp [ec, ec']; rfl, oc, by simp [Tr.depth]⟩
  · exact ⟨.both (.named c) (.named c'), by simp [ec, ec']; rfl, ⟨oc, oc'⟩, by simp [Tr.depth]⟩
  · exact ⟨.either (.named c) (.neg (.named c')), by simp [ec, ec']; rfl, ⟨oc, oc'⟩, by simp [Tr.depth]⟩
  · exact ⟨.yes, by simp [ec, ec']; rfl, True.intro, by simp [Tr.depth]⟩
  · exact ⟨.both (.named c) (.neg (.named c')), by simp [ec, ec']; rfl, ⟨oc, oc'⟩, by simp [Tr.depth]⟩
theorem ltest_ok (n : Nat) (z : Int) : gF (n + 1) 7 [.int z] = .ok (.tup [.int (z % 6), .int (z / 6 % 4), .int (z / 24 % 4)]) := by
  rw [g_l_test, runD_of rfl]
  have ei : inP [false] 1 [.int z] = [.v (.int z)] := rfl
  rw [ei]
  unfold d_l_test
  simp
def St.cnt : St → Nat
  | .skip => 1 | .stop => 1 | .deed _ => 1 | .row h t => h.cnt + t.cnt + 1 | .choice _ y n => y.cnt + n.cnt + 1 | .loop _ b => b.cnt + 1
end M71
end
section
set_option Elab.async false
set_option linter.all false
set_option maxRecDepth 100000
set_option maxHeartbeats 4000000
namespace M71
open PySem L2 DN
theorem grown_ok (n : Nat) (t : St) (z : Int) (h : t.ok) : ∃ u : St, gF (n + 2) 9 [t.pv, .int z] = .ok u.pv ∧ u.ok ∧ u.depth ≤ max t.depth 3 + 1 ∧ u.cnt ≤ t.cnt + 4 := by
  rw [g_l_grown, runD_of rfl]
  have ei : inP [false, false] 5 [t.pv, .int z] = [.v t.pv, .v (.int z), .no, .no, .no] := rfl
  rw [ei]
  obtain ⟨y0, d0, _⟩ := draw_ok n z 0 (by decide) (by decide)
  obtain ⟨y1, d1, _⟩ := draw_ok n z 1 (by decide) (by decide)
  obtain ⟨y2, d2, _⟩ := draw_ok n z 2 (by decide) (by decide)
  obtain ⟨c, ec, oc⟩ := deed_at (j := y1 % 5) (by omega) (by omega)
  have et := ltest_ok n y2
  obtain ⟨g, eg, og, dg⟩ := sign_ok n (y2 % 6) (y2 / 6 % 4) (y2 / 24 % 4) (by omega) (by omega) (by omega)
  unfold d_l_grown
  have : y0 % 8 = 0 ∨ y0 % 8 = 1 ∨ y0 % 8 = 2 ∨ y0 % 8 = 3 ∨ y0 % 8 = 4 ∨ y0 % 8 = 5 ∨ y0 % 8 = 6 ∨ y0 % 8 = 7 := by omega
  rcases this with q | q | q | q | q | q | q | q
  · exact ⟨.row t (.deed c), by simp [d0, d1, d2, ec, et, eg, q]; rfl, ⟨h, oc⟩, by simp only [St.depth]; omega, by simp only [St.cnt]; omega⟩
  · exact ⟨.row (.deed c) t, by simp [d0, d1, d2, ec, et, eg, q]; rfl, ⟨oc, h⟩, by simp only [St.depth]; omega, by simp only [St.cnt]; omega⟩
  · exact ⟨.loop g t, by simp [d0, d1, d2, ec, et, eg, q]; rfl, ⟨og, h⟩, by simp only [St.depth]; omega, by simp only [St.cnt]; omega⟩
  · exact ⟨.choice g t (.deed c), by simp [d0, d1, d2, ec, et, eg, q]; rfl, ⟨og, h, oc⟩, by simp only [St.depth]; omega, by simp only [St.cnt]; omega⟩
  · exact ⟨.choice g (.deed c) t, by simp [d0, d1, d2, ec, et, eg, q]; rfl, ⟨og, oc, h⟩, by simp only [St.depth]; omega, by simp only [St.cnt]; omega⟩
  · exact ⟨.row t (.choice g .stop .skip), by simp [d0, d1, d2, ec, et, eg, q]; rfl, ⟨h, og, True.intro, True.intro⟩, by simp only [St.depth]; omega, by simp only [St.cnt]; omega⟩
  · exact ⟨.row (.loop g (.deed c)) t, by simp [d0, d1, d2, ec, et, eg, q]; rfl, ⟨⟨og, oc⟩, h⟩, by simp only [St.depth]; omega, by simp only [St.cnt]; omega⟩
  · exact ⟨.choice g .skip t, by simp [d0, d1, d2, ec, et, eg, q]; rfl, ⟨og, True.intro, h⟩, by simp only [St.depth]; omega, by simp only [St.cnt]; omega⟩
/-! ### weights -/
def St.w : St → Nat
  | .skip => 1 | .stop => 1 | .deed _ => 2 | .row h t => 1 + h.w + t.w | .choice _ y n => 1 + y.w + n.w | .loop _ b => 2 + b.w
def St.owns : St → List St
  | .row h t => [h, t] | .choice _ y n => [y, n] | .loop _ b => [b] | _ => []
theorem owns_ok (t : St) (n : Nat) : gF (n + 1) 1 [t.pv] = .ok (.lst (t.owns.map St.pv)) := by
  rw [g_own_programs, runD_of rfl]
  show fin (d_own_programs (gF n) [.v t.pv]) = _
  unfold d_own_programs
  cases t <;> simp [St.pv, St.owns]
theorem weight_ok : ∀ (t : St) (n : Nat), t.depth < n → gF (n + 1) 0 [t.pv] = .ok (.int (t.w : Nat)) := by
  intro t
  have gen : ∀ (t : St) (n : Nat), (∀ u, u ∈ t.owns → gF n 0 [u.pv] = .ok (.int (u.w : Nat))) → 0 < n → gF (n + 1) 0 [t.pv] = .ok (.int (t.w : Nat)) := by
    intro t n hu hn
    obtain ⟨m, rfl⟩ : ∃ m, n = m + 1 := ⟨n - 1, by omega⟩
    have eo := owns_ok t m
    have hl : t.owns.length ≤ 2 := by cases t <;> simp [St.owns]
    have hc : dComp ["own"] [] (dItems (dCall (gF (m + 1) 1) (dCons (dVar 0) dNil))) (gSet 0) dYes (dCall (gF (m + 1) 0) (dCons (dVar 0) dNil)) [.v t.pv, .no] = .ok (t.owns.map fun u => PV.int (u.w : Nat)) := by
      unfold dComp
      simp only [e_items, e_call, e_cons, e_var, List.getElem?_cons_zero, e_nil, consR_ok, ok_bind, eo]
      rw [if_pos (by rw [List.length_map]; show t.owns.length ≤ 16777216; omega)]
      exact comp_all St.pv (fun u => PV.int (u.w : Nat)) t.owns .no fun u hu' => by simp [hu u hu']
    have bs : bSum [.lst (t.owns.map fun u => PV.int (u.w : Nat))] = .ok (.int (t.owns.map fun u => ((u.w : Nat) : Int)).sum) := by
      show (match intsOf (t.owns.map fun u => PV.int (u.w : Nat)) with | some ns => Rx.ok (PV.int ns.sum) | none => .bad) = _
      rw [intsOf_emb (fun u : St => ((u.w : Nat) : Int))]
    rw [g_weight_of, runD_of rfl]
    show fin (d_weight_of (gF (m + 1)) [.v t.pv, .no]) = _
    unfold d_weight_of
    have k1 : ∀ xs, isiP2 i_Deed i_Loop (.obj 7 xs) = .ok (.bl false) := fun _ => rfl
    have k2 : ∀ xs, isiP2 i_Deed i_Loop (.obj 8 xs) = .ok (.bl false) := fun _ => rfl
    have k3 : ∀ xs, isiP2 i_Deed i_Loop (.obj 9 xs) = .ok (.bl true) := fun _ => rfl
    have k4 : ∀ xs, isiP2 i_Deed i_Loop (.obj 10 xs) = .ok (.bl false) := fun _ => rfl
    have k5 : ∀ xs, isiP2 i_Deed i_Loop (.obj 11 xs) = .ok (.bl false) := fun _ => rfl
    have k6 : ∀ xs, isiP2 i_Deed i_Loop (.obj 12 xs) = .ok (.bl true) := fun _ => rfl
    cases t <;> simp only [St.pv] at hc ⊢ <;> simp [hc, bs, k1, k2, k3, k4, k5, k6] <;> (try simp [St.owns, St.w]) <;> (try omega)
  induction t with
  | skip => intro n h; exact gen _ n (fun u hu => by cases hu) (by omega)
  | stop => intro n h; exact gen _ n (fun u hu => by cases hu) (by omega)
  | deed c => intro n h; exact gen _ n (fun u hu => by cases hu) (by omega)
  | row a b ih1 ih2 =>
    intro n h
    have h : max a.depth b.depth + 1 < n := h
    obtain ⟨m, rfl⟩ : ∃ m, n = m + 1 := ⟨n - 1, by omega⟩
    refine gen _ (m + 1) (fun u hu => ?_) (by omega)
    simp only [St.owns, List.mem_cons, List.not_mem_nil, or_false] at hu
    rcases hu with rfl | rfl
    · exact ih1 m (by omega)
    · exact ih2 m (by omega)
  | choice g a b ih1 ih2 =>
    intro n h
    have h : max g.depth (max a.depth b.depth) + 1 < n := h
    obtain ⟨m, rfl⟩ : ∃ m, n = m + 1 := ⟨n - 1, by omega⟩
    refine gen _ (m + 1) (fun u hu => ?_) (by omega)
    simp only [St.owns, List.mem_cons, List.not_mem_nil, or_false] at hu
    rcases hu with rfl | rfl
    · exact ih1 m (by omega)
    · exact ih2 m (by omega)
  | loop g a ih1 =>
    intro n h
    have h : max g.depth a.depth + 1 < n := h
    obtain ⟨m, rfl⟩ : ∃ m, n = m + 1 := ⟨n - 1, by omega⟩
    refine gen _ (m + 1) (fun u hu => ?_) (by omega)
    simp only [St.owns, List.mem_cons, List.not_mem_nil, or_false] at hu
    subst hu
    exact ih1 m (by omega)
/-! ### the others at each place -/
def St.others : St → List St
  | .row h t => [.skip, .stop, h, t] ++ h.others.map (fun u => .row u t) ++ t.others.map (fun u => .row h u)
  | .choice g y n => [.skip, .stop, y, n] ++ y.others.map (fun u => .choice g u n) ++ n.others.map (fun u => .choice g y u)
  | .loop g b => [.skip, .stop, b] ++ b.others.map (fun u => .loop g u)
  | _ => [.skip, .stop]
def St.less (t : St) : List St := t.others.filter fun u => decide (u.w < t.w)
theorem others_len : ∀ t : St, t.others.length ≤ 4 * t.cnt
  | .skip => by simp [St.others, St.cnt]
  | .stop => by simp [St.others, St.cnt]
  | .deed _ => by simp [St.others, St.cnt]
  | .row h t => by
    have := others_len h; have := others_len t
    simp only [St.others, St.cnt, List.length_append, List.length_map, List.length_cons, List.length_nil]; omega
  | .choice g h t => by
    have := others_len h; have := others_len t
    simp only [St.others, St.cnt, List.length_append, List.length_map, List.length_cons, List.length_nil]; omega
  | .loop g t => by
    have := others_len t
    simp only [St.others, St.cnt, List.length_append, List.length_map, List.length_cons, List.length_nil]; omega
theorem others_depth : ∀ (t u : St), u ∈ t.others → u.depth ≤ t.depth
  | .skip, u, h => by simp [St.others] at h; rcases h with rfl | rfl <;> simp [St.depth]
  | .stop, u, h => by simp [St.others] at h; rcases h with rfl | rfl <;> simp [St.depth]
  | .deed _, u, h => by simp [St.others] at h; rcases h with rfl | rfl <;> simp [St.depth]
  | .row a b, u, h => by
    simp only [St.others, List.mem_append, List.mem_map, List.mem_cons, List.not_mem_nil, or_false] at h
    rcases h with ((rfl | rfl | rfl | rfl) | ⟨v, hv, rfl⟩) | ⟨v, hv, rfl⟩
    · simp [St.depth]
    · simp [St.depth]
    · simp only [St.depth]; omega
    · simp only [St.depth]; omega
    · have := others_depth _ _ hv; simp only [St.depth]; omega
    · have := others_depth _ _ hv; simp only [St.depth]; omega
  | .choice g a b, u, h => by
    simp only [St.others, List.mem_append, List.mem_map, List.mem_cons, List.not_mem_nil, or_false] at h
    rcases h with ((rfl | rfl | rfl | rfl) | ⟨v, hv, rfl⟩) | ⟨v, hv, rfl⟩
    · simp [St.depth]
    · simp [St.depth]
    · simp only [St.depth]; omega
    · simp only [St.depth]; omega
    · have := others_depth _ _ hv; simp only [St.depth]; omega
    · have := others_depth _ _ hv; simp only [St.depth]; omega
  | .loop g a, u, h => by
    simp only [St.others, List.mem_append, List.mem_map, List.mem_cons, List.not_mem_nil, or_false] at h
    rcases h with (rfl | rfl | rfl) | ⟨v, hv, rfl⟩
    · simp [St.depth]
    · simp [St.depth]
    · simp only [St.depth]; omega
    · have := others_depth _ _ hv; simp only [St.depth]; omega
theorem others_ok : ∀ (t u : St), t.ok → u ∈ t.others → u.ok
  | .skip, u, o, h => by simp [St.others] at h; rcases h with rfl | rfl <;> exact True.intro
  | .stop, u, o, h => by simp [St.others] at h; rcases h with rfl | rfl <;> exact True.intro
  | .deed _, u, o, h => by simp [St.others] at h; rcases h with rfl | rfl <;> exact True.intro
  | .row a b, u, o, h => by
    simp only [St.others, List.mem_append, List.mem_map, List.mem_cons, List.not_mem_nil, or_false] at h
    rcases h with ((rfl | rfl | rfl | rfl) | ⟨v, hv, rfl⟩) | ⟨v, hv, rfl⟩
    · exact True.intro
    · exact True.intro
    · exact o.1
    · exact o.2
    · exact ⟨others_ok _ _ o.1 hv, o.2⟩
    · exact ⟨o.1, others_ok _ _ o.2 hv⟩
  | .choice g a b, u, o, h => by
    simp only [St.others, List.mem_append, List.mem_map, List.mem_cons, List.not_mem_nil, or_false] at h
    rcases h with ((rfl | rfl | rfl | rfl) | ⟨v, hv, rfl⟩) | ⟨v, hv, rfl⟩
    · exact True.intro
    · exact True.intro
    · exact o.2.1
    · exact o.2.2
    · exact ⟨o.1, others_ok _ _ o.2.1 hv, o.2.2⟩
    · exact ⟨o.1, o.2.1, others_ok _ _ o.2.2 hv⟩
  | .loop g a, u, o, h => by
    simp only [St.others, List.mem_append, List.mem_map, List.mem_cons, List.not_mem_nil, or_false] at h
    rcases h with (rfl | rfl | rfl) | ⟨v, hv, rfl⟩
    · exact True.intro
    · exact True.intro
    · exact o.2
    · exact ⟨o.1, others_ok _ _ o.2 hv⟩
def St.put : St → Nat → St → St
  | .row h t, k, u => if k = 0 then .row u t else .row h u
  | .choice g y n, k, u => if k = 0 then .choice g u n else .choice g y u
  | .loop g _, _, u => .loop g u
  | s, _, _ => s
theorem put_ok (t u : St) (n k : Nat) (h : t.owns ≠ []) : gF (n + 1) 2 [t.pv, .int (k : Int), u.pv] = .ok (t.put k u).pv := by
  rw [g_with_own, runD_of rfl]
  show fin (d_with_own (gF n) [.v t.pv, .v (.int (k : Int)), .v u.pv]) = _
  unfold d_with_own
  have hb : (((k : Nat) : Int) == 0) = decide (k = 0) := by
    by_cases q : k = 0
    · subst q; rfl
    · have : ¬ ((k : Int) = 0) := by omega
      simp [q, this]
  cases t with
  | row a b =>
    by_cases q : k = 0
    · simp [St.pv, hb, q, St.put]
    · simp [St.pv, hb, q, St.put]
  | choice g a b =>
    by_cases q : k = 0
    · simp [St.pv, hb, q, St.put]
    · simp [St.pv, hb, q, St.put]
  | loop g a => simp [St.pv, St.put]
  | skip => exact absurd rfl h
  | stop => exact absurd rfl h
  | deed c => exact absurd rfl h
theorem turn_ok (t u : St) (n k : Nat) (w own : PV) (xs : List PV) (h : t.owns ≠ []) (e : gF (n + 1) 3 [u.pv] = .ok (.lst (u.less.map St.pv))) (hl : xs.length + u.less.length ≤ 100000) :
    b_shorter_1 (gF (n + 1)) [.v t.pv, .v w, .v own, .own (.lst xs), .v (.int (k : Int)), .v u.pv] = .nx [.v t.pv, .v w, .v own, .own (.lst (xs ++ u.less.map fun v => (t.put k v).pv)), .v (.int (k : Int)), .v u.pv] := by
  unfold b_shorter_1
  have hc : dComp ["other"] [("step", 0), ("number", 4)] (dItems (dOfN (dCallW (gF (n + 1) 3) (dCons (dVar 5) dNil)))) (gSet 0) dYes (dCall (gF (n + 1) 2) (dCons (dVar 1) (dCons (dVar 2) (dCons (dVar 0) dNil)))) [.v t.pv, .v w, .v own, .own (.lst xs), .v (.int (k : Int)), .v u.pv] = .ok (u.less.map fun v => (t.put k v).pv) := by
    unfold dComp
    simp only [e_items, e_ofN, e_callW, e_cons, e_var, List.getElem?_cons_zero, List.getElem?_cons_succ, e_nil, consR_ok, ok_bind, e]
    rw [if_pos (by rw [List.length_map]; show u.less.length ≤ 16777216; omega)]
    exact comp_all St.pv (fun v => (t.put k v).pv) u.less .no fun v _ => by simp [Sl.out, put_ok t v n k h]
  have hs : xs.length + (u.less.map fun v => (t.put k v).pv).length ≤ sizeLine := by rw [List.length_map]; show _ ≤ 16777216; omega
  simp only [e_expr, e_ext, List.getElem?_cons_zero, List.getElem?_cons_succ, hc, ok_bind, if_pos hs, ok_st, List.set_cons_zero, List.set_cons_succ]
theorem filt (f : St → St) (p : St → Bool) (q : St → Bool) (h : ∀ u, p (f u) = q u) (l : List St) : (l.map f).filter p = (l.filter q).map f := by
  rw [List.filter_map]
  congr 1
  apply List.filter_congr
  intro u _
  exact h u
theorem less_row (a b : St) : (St.row a b).less = [St.skip, .stop, a, b].filter (fun u => decide (u.w < (St.row a b).w)) ++ a.less.map (fun u => .row u b) ++ b.less.map (fun u => .row a u) := by
  unfold St.less
  rw [St.others, List.filter_append, List.filter_append, filt _ _ (fun u => decide (u.w < a.w)) (fun u => by simp only [St.w]; apply decide_eq_decide.mpr; omega), filt _ _ (fun u => decide (u.w < b.w)) (fun u => by simp only [St.w]; apply decide_eq_decide.mpr; omega)]
theorem less_choice (g : Tr) (a b : St) : (St.choice g a b).less = [St.skip, .stop, a, b].filter (fun u => decide (u.w < (St.choice g a b).w)) ++ a.less.map (fun u => .choice g u b) ++ b.less.map (fun u => .choice g a u) := by
  unfold St.less
  rw [St.others, List.filter_append, List.filter_append, filt _ _ (fun u => decide (u.w < a.w)) (fun u => by simp only [St.w]; apply decide_eq_decide.mpr; omega), filt _ _ (fun u => decide (u.w < b.w)) (fun u => by simp only [St.w]; apply decide_eq_decide.mpr; omega)]
theorem less_loop (g : Tr) (a : St) : (St.loop g a).less = [St.skip, .stop, a].filter (fun u => decide (u.w < (St.loop g a).w)) ++ a.less.map (fun u => .loop g u) := by
  unfold St.less
  rw [St.others, List.filter_append, filt _ _ (fun u => decide (u.w < a.w)) (fun u => by simp only [St.w]; apply decide_eq_decide.mpr; omega)]
theorem less_len (t : St) : t.less.length ≤ 4 * t.cnt := Nat.le_trans (List.length_filter_le _ _) (others_len t)
theorem head_ok (t : St) (n : Nat) (hd : t.depth < n) : ∀ ps, dComp ["other"] [("weight", 1)] (dItems (dOfN (dCatL (dOfN (dCons (dC (.obj 7 [])) (dCons (dC (.obj 8 [])) dNil))) (dSee 2)))) (gSet 0) (dTr (d2 fLt (dCall (gF (n + 1) 0) (dCons (dVar 0) dNil)) (dSee 1))) (dVar 0)
    ([.v t.pv, .v (.int (t.w : Nat)), .v (.lst (t.owns.map St.pv))] ++ ps) = .ok ((([St.skip, .stop] ++ t.owns).filter fun u => decide (u.w < t.w)).map St.pv) := by
  intro ps
  have hl : t.owns.length ≤ 2 := by cases t <;> simp [St.owns]
  have hz : ([PV.obj 7 [], PV.obj 8 []] : List PV).length + (t.owns.map St.pv).length ≤ sizeLine := by rw [List.length_map]; show 2 + _ ≤ 16777216; omega
  have em : [PV.obj 7 [], PV.obj 8 []] ++ t.owns.map St.pv = ([St.skip, .stop] ++ t.owns).map St.pv := by simp [St.pv]
  unfold dComp
  simp only [e_items, e_ofN, e_catL, e_cons, e_C, e_see, List.cons_append, List.nil_append, List.getElem?_cons_zero, List.getElem?_cons_succ, e_nil, consR_ok, ok_bind, if_pos hz]
  rw [if_pos (by simp [List.length_map]; show _ ≤ 16777216; omega)]
  have em : (PV.obj 7 [] :: PV.obj 8 [] :: t.owns.map St.pv) = ([St.skip, .stop] ++ t.owns).map St.pv := em
  rw [em]
  refine comp_emb St.pv (fun u => decide (u.w < t.w)) St.pv ([St.skip, .stop] ++ t.owns) .no fun u hu => ⟨?_, fun _ => rfl⟩
  have hw : u.depth < n := by
    rcases List.mem_append.mp hu with q | q
    · simp at q; rcases q with rfl | rfl <;> (show 0 < n; omega)
    · cases t with
      | row a b => simp [St.owns] at q; simp only [St.depth] at hd; rcases q with rfl | rfl <;> omega
      | choice g a b => simp [St.owns] at q; simp only [St.depth] at hd; rcases q with rfl | rfl <;> omega
      | loop g a => simp [St.owns] at q; simp only [St.depth] at hd; subst q; omega
      | skip => cases q
      | stop => cases q
      | deed c => cases q
  have e := weight_ok u n hw
  have hi : decide (((u.w : Nat) : Int) < ((t.w : Nat) : Int)) = decide (u.w < t.w) := decide_eq_decide.mpr (by omega)
  show ((dTr (d2 fLt (dCall (gF (n + 1) 0) (dCons (dVar 0) dNil)) (dSee 1))) [.v u.pv, .v (.int (t.w : Nat))]) = _
  simp [e, hi]
theorem shorter_gen (t : St) (n : Nat) (hd : t.depth < n) (hc : t.cnt ≤ 1000) (hu : ∀ u, u ∈ t.owns → gF (n + 1) 3 [u.pv] = .ok (.lst (u.less.map St.pv))) : gF (n + 2) 3 [t.pv] = .ok (.lst (t.less.map St.pv)) := by
  have ew := weight_ok t n hd
  have eo := owns_ok t n
  have hh := head_ok t n hd [.no, .no, .no]
  rw [g_shorter, runW_of rfl]
  show finW (d_shorter (gF (n + 1)) [.v t.pv, .no, .no, .no, .no, .no]) = _
  have hh : dComp ["other"] [("weight", 1)] (dItems (dOfN (dCatL (dOfN (dCons (dC (.obj 7 [])) (dCons (dC (.obj 8 [])) dNil))) (dSee 2)))) (gSet 0) (dTr (d2 fLt (dCall (gF (n + 1) 0) (dCons (dVar 0) dNil)) (dSee 1))) (dVar 0)
    [.v t.pv, .v (.int (t.w : Nat)), .v (.lst (t.owns.map St.pv)), .no, .no, .no] = .ok ((([St.skip, .stop] ++ t.owns).filter fun u => decide (u.w < t.w)).map St.pv) := hh
  have h4 : ∀ l : List St, l.length ≤ 4 → ((l.filter fun u => decide (u.w < t.w)).map St.pv).length ≤ 4 := fun l hl => by rw [List.length_map]; exact Nat.le_trans (List.length_filter_le _ _) hl
  unfold d_shorter
  simp only [e_seq, e_set, e_call, e_cons, e_var, List.getElem?_cons_zero, List.getElem?_cons_succ, e_nil, consR_ok, ok_bind, ew, eo, ok_st, List.set_cons_zero, List.set_cons_succ, next_nx, e_own, hh, List.length_cons, List.length_nil, Nat.reduceAdd, Nat.reduceLT, if_true, e_forE, e_enum]
  cases t with
  | row a b =>
    have n0 : (St.row a b).owns ≠ [] := by simp [St.owns]
    have ca : a.cnt + b.cnt + 1 ≤ 1000 := hc
    have la := less_len a
    have lb := less_len b
    have l4 := h4 [.skip, .stop, a, b] (by simp)
    have t1 := turn_ok (.row a b) a n 0 (.int ((St.row a b).w : Nat)) (.lst ((St.row a b).owns.map St.pv)) (([St.skip, .stop, a, b].filter fun u => decide (u.w < (St.row a b).w)).map St.pv) n0 (hu a (by simp [St.owns])) (by omega)
    have t2 := turn_ok (.row a b) b n 1 (.int ((St.row a b).w : Nat)) (.lst ((St.row a b).owns.map St.pv)) (([St.skip, .stop, a, b].filter fun u => decide (u.w < (St.row a b).w)).map St.pv ++ a.less.map fun v => (St.put (.row a b) 0 v).pv) n0 (hu b (by simp [St.owns])) (by simp only [List.length_append, List.length_map] at l4 ⊢; omega)
    rw [less_row]
    have p0 : ∀ v, St.put (.row a b) 0 v = .row v b := fun _ => rfl
    have p1 : ∀ v, St.put (.row a b) 1 v = .row a v := fun _ => rfl
    have e0 : ((0 : Nat) : Int) = 0 := rfl
    have e1 : ((1 : Nat) : Int) = 1 := rfl
    rw [e0] at t1
    rw [e1] at t2
    simp only [St.owns, p0, p1, List.map_cons, List.map_nil, List.cons_append, List.nil_append] at t1 t2 ⊢
    simp [enumFrom, forD, t1, t2, Function.comp_def]
  | choice g a b =>
    have n0 : (St.choice g a b).owns ≠ [] := by simp [St.owns]
    have ca : a.cnt + b.cnt + 1 ≤ 1000 := hc
    have la := less_len a
    have lb := less_len b
    have l4 := h4 [.skip, .stop, a, b] (by simp)
    have t1 := turn_ok (.choice g a b) a n 0 (.int ((St.choice g a b).w : Nat)) (.lst ((St.choice g a b).owns.map St.pv)) (([St.skip, .stop, a, b].filter fun u => decide (u.w < (St.choice g a b).w)).map St.pv) n0 (hu a (by simp [St.owns])) (by omega)
    have t2 := turn_ok (.choice g a b) b n 1 (.int ((St.choice g a b).w : Nat)) (.lst ((St.choice g a b).owns.map St.pv)) (([St.skip, .stop, a, b].filter fun u => decide (u.w < (St.choice g a b).w)).map St.pv ++ a.less.map fun v => (St.put (.choice g a b) 0 v).pv) n0 (hu b (by simp [St.owns])) (by simp only [List.length_append, List.length_map] at l4 ⊢; omega)
    rw [less_choice]
    have p0 : ∀ v, St.put (.choice g a b) 0 v = .choice g v b := fun _ => rfl
    have p1 : ∀ v, St.put (.choice g a b) 1 v = .choice g a v := fun _ => rfl
    have e0 : ((0 : Nat) : Int) = 0 := rfl
    have e1 : ((1 : Nat) : Int) = 1 := rfl
    rw [e0] at t1
    rw [e1] at t2
    simp only [St.owns, p0, p1, List.map_cons, List.map_nil, List.cons_append, List.nil_append] at t1 t2 ⊢
    simp [enumFrom, forD, t1, t2, Function.comp_def]
  | loop g a =>
    have n0 : (St.loop g a).owns ≠ [] := by simp [St.owns]
    have ca : a.cnt + 1 ≤ 1000 := hc
    have la := less_len a
    have l4 := h4 [.skip, .stop, a] (by simp)
    have t1 := turn_ok (.loop g a) a n 0 (.int ((St.loop g a).w : Nat)) (.lst ((St.loop g a).owns.map St.pv)) (([St.skip, .stop, a].filter fun u => decide (u.w < (St.loop g a).w)).map St.pv) n0 (hu a (by simp [St.owns])) (by omega)
    rw [less_loop]
    have p0 : ∀ v, St.put (.loop g a) 0 v = .loop g v := fun _ => rfl
    have e0 : ((0 : Nat) : Int) = 0 := rfl
    rw [e0] at t1
    simp only [St.owns, p0, List.map_cons, List.map_nil, List.cons_append, List.nil_append] at t1 ⊢
    simp [enumFrom, forD, t1, Function.comp_def]
  | skip => simp [St.owns, enumFrom, St.less, St.others]
  | stop => simp [St.owns, enumFrom, St.less, St.others]
  | deed c => simp [St.owns, enumFrom, St.less, St.others]
theorem shorter_ok (t : St) : ∀ (n : Nat), t.depth < n → t.cnt ≤ 1000 → gF (n + 2) 3 [t.pv] = .ok (.lst (t.less.map St.pv)) := by
  induction t with
  | skip => intro n h c; exact shorter_gen _ n h c fun u hu => by cases hu
  | stop => intro n h c; exact shorter_gen _ n h c fun u hu => by cases hu
  | deed _ => intro n h c; exact shorter_gen _ n h c fun u hu => by cases hu
  | row a b ih1 ih2 =>
    intro n h c
    have h' : max a.depth b.depth + 1 < n := h
    have c' : a.cnt + b.cnt + 1 ≤ 1000 := c
    obtain ⟨m, rfl⟩ : ∃ m, n = m + 1 := ⟨n - 1, by omega⟩
    refine shorter_gen _ (m + 1) h c fun u hu => ?_
    simp only [St.owns, List.mem_cons, List.not_mem_nil, or_false] at hu
    rcases hu with rfl | rfl
    · exact ih1 m (by omega) (by omega)
    · exact ih2 m (by omega) (by omega)
  | choice g a b ih1 ih2 =>
    intro n h c
    have h' : max g.depth (max a.depth b.depth) + 1 < n := h
    have c' : a.cnt + b.cnt + 1 ≤ 1000 := c
    obtain ⟨m, rfl⟩ : ∃ m, n = m + 1 := ⟨n - 1, by omega⟩
    refine shorter_gen _ (m + 1) h c fun u hu => ?_
    simp only [St.owns, List.mem_cons, List.not_mem_nil, or_false] at hu
    rcases hu with rfl | rfl
    · exact ih1 m (by omega) (by omega)
    · exact ih2 m (by omega) (by omega)
  | loop g a ih1 =>
    intro n h c
    have h' : max g.depth a.depth + 1 < n := h
    have c' : a.cnt + 1 ≤ 1000 := c
    obtain ⟨m, rfl⟩ : ∃ m, n = m + 1 := ⟨n - 1, by omega⟩
    refine shorter_gen _ (m + 1) h c fun u hu => ?_
    simp only [St.owns, List.mem_cons, List.not_mem_nil, or_false] at hu
    subst hu
    exact ih1 m (by omega) (by omega)
end M71
end
section
set_option Elab.async false
set_option linter.all false
set_option maxRecDepth 100000
set_option maxHeartbeats 4000000
namespace M71
open PySem L2 DN
/-! ### programs taken as tuples -/
def St.tk : St → PV
  | .skip => .tup [.str "skip"] | .stop => .tup [.str "stop"] | .deed c => .tup [.str "deed", .str c] | .row h t => .tup [.str "row", h.tk, t.tk]
  | .choice g y n => .tup [.str "choice", y.tk, n.tk, .int (g.mk : Nat)] | .loop g b => .tup [.str "loop", b.tk, .int (g.mk : Nat)]
theorem tk_data : ∀ t : St, t.tk.data = true
  | .skip => rfl
  | .stop => rfl
  | .deed _ => rfl
  | .row a b => by simp [St.tk, PV.data, pdata, tk_data a, tk_data b]
  | .choice g a b => by simp [St.tk, PV.data, pdata, tk_data a, tk_data b]
  | .loop g a => by simp [St.tk, PV.data, pdata, tk_data a]
theorem tk_depth : ∀ t : St, t.tk.depth ≤ t.depth + 1
  | .skip => by simp [St.tk, PV.depth, pdepths, St.depth]
  | .stop => by simp [St.tk, PV.depth, pdepths, St.depth]
  | .deed _ => by simp [St.tk, PV.depth, pdepths, St.depth]
  | .row a b => by
    have := tk_depth a; have := tk_depth b
    simp only [St.tk, PV.depth, pdepths, St.depth]; omega
  | .choice g a b => by
    have := tk_depth a; have := tk_depth b
    simp only [St.tk, PV.depth, pdepths, St.depth]; omega
  | .loop g a => by
    have := tk_depth a
    simp only [St.tk, PV.depth, pdepths, St.depth]; omega
theorem taken_ok : ∀ (t : St) (n : Nat), t.ok → t.depth < n → gF (n + 1) 10 [t.pv] = .ok t.tk
  | .skip, n, _, _ => by
    rw [g_l_taken, runD_of rfl]; show fin (d_l_taken (gF n) [.v (St.skip).pv]) = _; unfold d_l_taken; simp [St.pv, St.tk]
  | .stop, n, _, _ => by
    rw [g_l_taken, runD_of rfl]; show fin (d_l_taken (gF n) [.v (St.stop).pv]) = _; unfold d_l_taken; simp [St.pv, St.tk]
  | .deed c, n, _, _ => by
    rw [g_l_taken, runD_of rfl]; show fin (d_l_taken (gF n) [.v (St.deed c).pv]) = _; unfold d_l_taken; simp [St.pv, St.tk]
  | .row a b, n + 1, o, h => by
    have h : max a.depth b.depth + 1 < n + 1 := h
    have e1 := taken_ok a n o.1 (by omega)
    have e2 := taken_ok b n o.2 (by omega)
    rw [g_l_taken, runD_of rfl]; show fin (d_l_taken (gF (n + 1)) [.v (St.row a b).pv]) = _; unfold d_l_taken; simp [St.pv, St.tk, e1, e2]
  | .choice g a b, n + 1, o, h => by
    have h : max g.depth (max a.depth b.depth) + 1 < n + 1 := h
    have e1 := taken_ok a n o.2.1 (by omega)
    have e2 := taken_ok b n o.2.2 (by omega)
    have e3 := lmask_ok g n o.1 (by omega)
    rw [g_l_taken, runD_of rfl]; show fin (d_l_taken (gF (n + 1)) [.v (St.choice g a b).pv]) = _; unfold d_l_taken; simp [St.pv, St.tk, e1, e2, e3]
  | .loop g a, n + 1, o, h => by
    have h : max g.depth a.depth + 1 < n + 1 := h
    have e1 := taken_ok a n o.2 (by omega)
    have e3 := lmask_ok g n o.1 (by omega)
    rw [g_l_taken, runD_of rfl]; show fin (d_l_taken (gF (n + 1)) [.v (St.loop g a).pv]) = _; unfold d_l_taken; simp [St.pv, St.tk, e1, e3]
theorem a0 (x : PV) (xs : List PV) : fIx (.tup (x :: xs)) (.int 0) = .ok x := by
  show (match atI (x :: xs) 0 with | some w => Rx.ok w | none => .bad) = _
  rw [show atI (x :: xs) 0 = some x from atI_nat (j := 0) rfl]
theorem a1 (x y : PV) (xs : List PV) : fIx (.tup (x :: y :: xs)) (.int 1) = .ok y := by
  show (match atI (x :: y :: xs) 1 with | some w => Rx.ok w | none => .bad) = _
  rw [show atI (x :: y :: xs) 1 = some y from atI_nat (j := 1) rfl]
theorem a2 (x y z : PV) (xs : List PV) : fIx (.tup (x :: y :: z :: xs)) (.int 2) = .ok z := by
  show (match atI (x :: y :: z :: xs) 2 with | some w => Rx.ok w | none => .bad) = _
  rw [show atI (x :: y :: z :: xs) 2 = some z from atI_nat (j := 2) rfl]
theorem b_rr : (("row" : Str) == "row") = true := by decide +kernel
theorem b_rl : (("row" : Str) == "loop") = false := by decide +kernel
theorem b_cr : (("choice" : Str) == "row") = false := by decide +kernel
theorem b_cc : (("choice" : Str) == "choice") = true := by decide +kernel
theorem b_cl : (("choice" : Str) == "loop") = false := by decide +kernel
theorem b_lr : (("loop" : Str) == "row") = false := by decide +kernel
theorem b_lc : (("loop" : Str) == "choice") = false := by decide +kernel
theorem b_ll : (("loop" : Str) == "loop") = true := by decide +kernel
theorem b_sr : (("skip" : Str) == "row") = false := by decide +kernel
theorem b_sc : (("skip" : Str) == "choice") = false := by decide +kernel
theorem b_sl : (("skip" : Str) == "loop") = false := by decide +kernel
theorem b_sd : (("skip" : Str) == "deed") = false := by decide +kernel
theorem b_tr : (("stop" : Str) == "row") = false := by decide +kernel
theorem b_tc : (("stop" : Str) == "choice") = false := by decide +kernel
theorem b_tl : (("stop" : Str) == "loop") = false := by decide +kernel
theorem b_td : (("stop" : Str) == "deed") = false := by decide +kernel
theorem b_dr : (("deed" : Str) == "row") = false := by decide +kernel
theorem b_dc : (("deed" : Str) == "choice") = false := by decide +kernel
theorem b_dl : (("deed" : Str) == "loop") = false := by decide +kernel
theorem b_dd : (("deed" : Str) == "deed") = true := by decide +kernel
theorem int_t : bInt [.bl true] = .ok (.int 1) := rfl
theorem int_f : bInt [.bl false] = .ok (.int 0) := rfl
theorem lweight_ok : ∀ (t : St) (n : Nat), t.depth < n → gF (n + 1) 11 [t.tk] = .ok (.int (t.w : Nat))
  | .skip, n, _ => by
    rw [g_l_weight, runD_of rfl]; show fin (d_l_weight (gF n) [.v (St.skip).tk]) = _; unfold d_l_weight; simp [St.tk, St.w, a0, b_sr, b_sc, b_sl, b_sd, int_f, -e_ixT]
  | .stop, n, _ => by
    rw [g_l_weight, runD_of rfl]; show fin (d_l_weight (gF n) [.v (St.stop).tk]) = _; unfold d_l_weight; simp [St.tk, St.w, a0, b_tr, b_tc, b_tl, b_td, int_f, -e_ixT]
  | .deed c, n, _ => by
    rw [g_l_weight, runD_of rfl]; show fin (d_l_weight (gF n) [.v (St.deed c).tk]) = _; unfold d_l_weight; simp [St.tk, St.w, a0, b_dr, b_dc, b_dl, b_dd, int_t, -e_ixT]
  | .row a b, n + 1, h => by
    have h : max a.depth b.depth + 1 < n + 1 := h
    have e1 := lweight_ok a n (by omega)
    have e2 := lweight_ok b n (by omega)
    rw [g_l_weight, runD_of rfl]; show fin (d_l_weight (gF (n + 1)) [.v (St.row a b).tk]) = _; unfold d_l_weight; simp [St.tk, St.w, a0, a1, a2, b_rr, e1, e2, -e_ixT]
  | .choice g a b, n + 1, h => by
    have h : max g.depth (max a.depth b.depth) + 1 < n + 1 := h
    have e1 := lweight_ok a n (by omega)
    have e2 := lweight_ok b n (by omega)
    rw [g_l_weight, runD_of rfl]; show fin (d_l_weight (gF (n + 1)) [.v (St.choice g a b).tk]) = _; unfold d_l_weight; simp [St.tk, St.w, a0, a1, a2, b_cr, b_cc, e1, e2, -e_ixT]
  | .loop g a, n + 1, h => by
    have h : max g.depth a.depth + 1 < n + 1 := h
    have e1 := lweight_ok a n (by omega)
    rw [g_l_weight, runD_of rfl]; show fin (d_l_weight (gF (n + 1)) [.v (St.loop g a).tk]) = _; unfold d_l_weight; simp [St.tk, St.w, a0, a1, a2, b_lr, b_lc, b_ll, e1, -e_ixT]
/-! ### _law_others -/
theorem comp_tk (n : Nat) (u : St) (prog x : PV) (ps : PSt) (i : Int) (f : St → PV) (de : DP) (hi : fIx prog (.int i) = .ok u.tk) (e : gF n 12 [u.tk] = .ok (.lst (u.others.map St.tk))) (hc : u.cnt ≤ 1000) (hf : ∀ v, v ∈ u.others → de [.v v.tk, .v prog] = .ok (f v)) :
    dComp ["_law_one"] [("_law_prog", 0)] (dItems (dCall (gF n 12) (dCons (d2 fIx (dSee 0) (dC (.int i))) dNil))) (gSet 0) dYes de (.v prog :: ps) = .ok (u.others.map f) := by
  have ol := others_len u
  unfold dComp
  simp only [e_items, e_call, e_cons, e_2, e_see, e_C, List.getElem?_cons_zero, bind2_ok, hi, e_nil, consR_ok, ok_bind, e]
  rw [if_pos (by rw [List.length_map]; show _ ≤ 16777216; omega)]
  exact comp_all St.tk f u.others .no hf
theorem loth_simple (t : St) (n : Nat) (h : t.others = [.skip, .stop]) (h0 : ∃ c xs, t.tk = .tup (.str c :: xs) ∧ (c == ("row" : Str)) = false ∧ (c == ("choice" : Str)) = false ∧ (c == ("loop" : Str)) = false) : gF (n + 1) 12 [t.tk] = .ok (.lst (t.others.map St.tk)) := by
  obtain ⟨c, xs, e, h1, h2, h3⟩ := h0
  rw [g_l_others, runD_of rfl, h, e]
  show fin (d_l_others (gF n) [.v (.tup (.str c :: xs)), .no]) = _
  unfold d_l_others
  simp [a0, h1, h2, h3, Ow.pv, St.tk, -e_ixT]
theorem lothers_ok : ∀ (t : St) (n : Nat), t.depth < n → t.cnt ≤ 1000 → gF (n + 1) 12 [t.tk] = .ok (.lst (t.others.map St.tk))
  | .skip, n, _, _ => loth_simple _ n rfl ⟨_, _, rfl, b_sr, b_sc, b_sl⟩
  | .stop, n, _, _ => loth_simple _ n rfl ⟨_, _, rfl, b_tr, b_tc, b_tl⟩
  | .deed c, n, _, _ => loth_simple _ n rfl ⟨_, _, rfl, b_dr, b_dc, b_dl⟩
  | .row a b, n + 1, h, c => by
    have h : max a.depth b.depth + 1 < n + 1 := h
    have c : a.cnt + b.cnt + 1 ≤ 1000 := c
    have la := others_len a
    have lb := others_len b
    have c1 := fun ps => comp_tk (n + 1) a (St.row a b).tk (St.row a b).tk ps 1 (fun u => (St.row u b).tk) (d2 fCatT (dTup (dCons (d2 fIx (dSee 1) (dC (.int 0))) (dCons (dVar 0) dNil))) (dCutT (dVar 1) (dO1 (dC (.int 2))) dO0)) (a1 _ _ _) (lothers_ok a n (by omega) (by omega)) (by omega) (fun v _ => rfl)
    have c2 := fun ps => comp_tk (n + 1) b (St.row a b).tk (St.row a b).tk ps 2 (fun u => (St.row a u).tk) (d2 fCatT (d2 fCatT (dCutT (dVar 1) dO0 (dO1 (dC (.int 2)))) (dTup (dCons (dVar 0) dNil))) (dCutT (dVar 1) (dO1 (dC (.int 3))) dO0)) (a2 _ _ _ _) (lothers_ok b n (by omega) (by omega)) (by omega) (fun v _ => rfl)
    have i0 : fIx (St.row a b).tk (.int 0) = .ok (.str "row") := a0 _ _
    have i1 : fIx (St.row a b).tk (.int 1) = .ok a.tk := a1 _ _ _
    have i2 : fIx (St.row a b).tk (.int 2) = .ok b.tk := a2 _ _ _ _
    have z1 : 4 ≤ sizeLine := by decide
    have z2 : 4 + (a.others.map fun u => (St.row u b).tk).length ≤ sizeLine := by rw [List.length_map]; show _ ≤ 16777216; omega
    have z3 : 4 + (a.others.map fun u => (St.row u b).tk).length + (b.others.map fun u => (St.row a u).tk).length ≤ sizeLine := by rw [List.length_map, List.length_map]; show _ ≤ 16777216; omega
    rw [List.length_map] at z2 z3
    rw [List.length_map] at z3
    rw [g_l_others, runD_of rfl]
    show fin (d_l_others (gF (n + 1)) [.v (St.row a b).tk, .no]) = _
    unfold d_l_others
    have z4 : a.others.length + 1 + 1 + 1 + 1 ≤ sizeLine := by show _ ≤ 16777216; omega
    have z5 : a.others.length + b.others.length + 1 + 1 + 1 + 1 ≤ sizeLine := by show _ ≤ 16777216; omega
    simp only [e_seq, e_own, e_cons, e_tup, e_C, e_nil, consR_ok, ok_bind, ok_st, List.length_cons, List.length_nil, Nat.reduceAdd, Nat.reduceLT, if_true, List.set_cons_zero, List.set_cons_succ, next_nx, e_if, e_Tr, e_2, e_see, List.getElem?_cons_zero, List.getElem?_cons_succ, bind2_ok, i0, e_eqS, b_rl, ifR_f, e_next, e_orT, b_rr, orR_t, ifR_t, e_catL, Ow.pv, e_ofN, i1, i2]
    rw [if_pos z1]
    simp only [ok_st, Nat.reduceLT, if_true, List.set_cons_zero, List.set_cons_succ, next_nx, e_seq, e_own, e_catL, e_see, List.getElem?_cons_zero, List.getElem?_cons_succ, Ow.pv, e_ofN, c1, ok_bind, List.length_cons, List.length_nil, List.cons_append, List.nil_append, List.length_map]
    rw [if_pos (by show _ ≤ 16777216; omega)]
    simp only [ok_st, Nat.reduceLT, Nat.reduceAdd, if_true, List.set_cons_zero, List.set_cons_succ, next_nx, e_seq, e_own, e_catL, e_see, List.getElem?_cons_zero, List.getElem?_cons_succ, Ow.pv, e_ofN, c2, ok_bind, List.length_cons, List.length_nil, List.cons_append, List.nil_append, List.length_map, List.length_append]
    rw [if_pos (by show _ ≤ 16777216; omega)]
    simp [Ow.pv, St.others, St.tk, Function.comp_def]
  | .choice g a b, n + 1, h, c => by
    have h : max g.depth (max a.depth b.depth) + 1 < n + 1 := h
    have c : a.cnt + b.cnt + 1 ≤ 1000 := c
    have la := others_len a
    have lb := others_len b
    have c1 := fun ps => comp_tk (n + 1) a (St.choice g a b).tk (St.choice g a b).tk ps 1 (fun u => (St.choice g u b).tk) (d2 fCatT (dTup (dCons (d2 fIx (dSee 1) (dC (.int 0))) (dCons (dVar 0) dNil))) (dCutT (dVar 1) (dO1 (dC (.int 2))) dO0)) (a1 _ _ _) (lothers_ok a n (by omega) (by omega)) (by omega) (fun v _ => rfl)
    have c2 := fun ps => comp_tk (n + 1) b (St.choice g a b).tk (St.choice g a b).tk ps 2 (fun u => (St.choice g a u).tk) (d2 fCatT (d2 fCatT (dCutT (dVar 1) dO0 (dO1 (dC (.int 2)))) (dTup (dCons (dVar 0) dNil))) (dCutT (dVar 1) (dO1 (dC (.int 3))) dO0)) (a2 _ _ _ _) (lothers_ok b n (by omega) (by omega)) (by omega) (fun v _ => rfl)
    have i0 : fIx (St.choice g a b).tk (.int 0) = .ok (.str "choice") := a0 _ _
    have i1 : fIx (St.choice g a b).tk (.int 1) = .ok a.tk := a1 _ _ _
    have i2 : fIx (St.choice g a b).tk (.int 2) = .ok b.tk := a2 _ _ _ _
    have z1 : 4 ≤ sizeLine := by decide
    rw [g_l_others, runD_of rfl]
    show fin (d_l_others (gF (n + 1)) [.v (St.choice g a b).tk, .no]) = _
    unfold d_l_others
    simp only [e_seq, e_own, e_cons, e_tup, e_C, e_nil, consR_ok, ok_bind, ok_st, List.length_cons, List.length_nil, Nat.reduceAdd, Nat.reduceLT, if_true, List.set_cons_zero, List.set_cons_succ, next_nx, e_if, e_Tr, e_2, e_see, List.getElem?_cons_zero, List.getElem?_cons_succ, bind2_ok, i0, e_eqS, b_cl, ifR_f, e_next, e_orT, b_cr, orR_f, b_cc, ifR_t, e_catL, Ow.pv, e_ofN, i1, i2]
    rw [if_pos z1]
    simp only [ok_st, Nat.reduceLT, if_true, List.set_cons_zero, List.set_cons_succ, next_nx, e_seq, e_own, e_catL, e_see, List.getElem?_cons_zero, List.getElem?_cons_succ, Ow.pv, e_ofN, c1, ok_bind, List.length_cons, List.length_nil, List.cons_append, List.nil_append, List.length_map]
    rw [if_pos (by show _ ≤ 16777216; omega)]
    simp only [ok_st, Nat.reduceLT, Nat.reduceAdd, if_true, List.set_cons_zero, List.set_cons_succ, next_nx, e_seq, e_own, e_catL, e_see, List.getElem?_cons_zero, List.getElem?_cons_succ, Ow.pv, e_ofN, c2, ok_bind, List.length_cons, List.length_nil, List.cons_append, List.nil_append, List.length_map, List.length_append]
    rw [if_pos (by show _ ≤ 16777216; omega)]
    simp [Ow.pv, St.others, St.tk, Function.comp_def]
  | .loop g a, n + 1, h, c => by
    have h : max g.depth a.depth + 1 < n + 1 := h
    have c : a.cnt + 1 ≤ 1000 := c
    have la := others_len a
    have c1 := fun ps => comp_tk (n + 1) a (St.loop g a).tk (St.loop g a).tk ps 1 (fun u => (St.loop g u).tk) (dTup (dCons (dC (.str "loop")) (dCons (dVar 0) (dCons (d2 fIx (dSee 1) (dC (.int 2))) dNil)))) (a1 _ _ _) (lothers_ok a n (by omega) (by omega)) (by omega) (fun v _ => rfl)
    have i0 : fIx (St.loop g a).tk (.int 0) = .ok (.str "loop") := a0 _ _
    have i1 : fIx (St.loop g a).tk (.int 1) = .ok a.tk := a1 _ _ _
    have z1 : 2 < sizeLine := by decide
    rw [g_l_others, runD_of rfl]
    show fin (d_l_others (gF (n + 1)) [.v (St.loop g a).tk, .no]) = _
    unfold d_l_others
    simp only [e_seq, e_own, e_cons, e_tup, e_C, e_nil, consR_ok, ok_bind, ok_st, List.length_cons, List.length_nil, Nat.reduceAdd, Nat.reduceLT, if_true, List.set_cons_zero, List.set_cons_succ, next_nx, e_if, e_Tr, e_2, e_see, List.getElem?_cons_zero, List.getElem?_cons_succ, bind2_ok, i0, e_eqS, b_ll, ifR_t, e_expr, e_app, e_lift, i1]
    rw [if_pos z1]
    simp only [ok_st, ok_bind, next_nx, List.set_cons_zero, List.set_cons_succ, List.cons_append, List.nil_append, e_ret, e_ofN, e_catL, e_see, List.getElem?_cons_zero, List.getElem?_cons_succ, Ow.pv, c1, List.length_cons, List.length_nil, List.length_map]
    rw [if_pos (by show _ ≤ 16777216; omega)]
    simp [St.others, St.tk, Function.comp_def]
/-! ### the law -/
theorem grown_loop (n : Nat) (zs : List Int) (t : St) (h : t.ok) (s0 s1 s3 s4 s5 s6 s7 : Sl) (D K : Nat) (hD : t.depth ≤ 3 + D) (hK : t.cnt ≤ 1 + 4 * K) :
    ∃ (u : St) (s7' : Sl), forD (gSet 7) (sSet 2 (dCall (gF (n + 2) 9) (dCons (dVar 2) (dCons (dVar 7) dNil)))) (zs.map PV.int) [s0, s1, .v t.pv, s3, s4, s5, s6, s7] = .nx [s0, s1, .v u.pv, s3, s4, s5, s6, s7'] ∧ u.ok ∧ u.depth ≤ 3 + D + zs.length ∧ u.cnt ≤ 1 + 4 * (K + zs.length) := by
  induction zs generalizing t s7 D K with
  | nil => exact ⟨t, s7, rfl, h, by simpa using hD, by simpa using hK⟩
  | cons z zs ih =>
    obtain ⟨u, e, ou, du, cu⟩ := grown_ok n t z h
    obtain ⟨v, s', e2, ov, dv, cv⟩ := ih u ou (.v (.int z)) (D + 1) (K + 1) (by omega) (by omega)
    refine ⟨v, s', ?_, ov, by simp only [List.length_cons]; omega, by simp only [List.length_cons]; omega⟩
    rw [List.map_cons, forD]
    simp [e, e2]
theorem law_ok (n : Nat) (ns : List Int) (t : St) (s1 s3 s4 s5 s6 s7 : Sl) (ot : t.ok) (hd : t.depth < n) (hc : t.cnt ≤ 1000) (hd9 : t.depth ≤ 90) :
    fin ((sSeq (sSet 3 (dCall (gF (n + 2) 10) (dCons (dVar 2) dNil)))
  (sSeq (sSet 4 (dCall (gF (n + 2) 0) (dCons (dVar 2) dNil)))
  (sSeq (sIf (dOrT (dNotT (dTr (dIsi i_int (dSee 4)))) (dOrT (dTr (dIsi i_bool (dSee 4))) (dTr (d2 fNe (dSee 4) (dCall (gF (n + 2) 11) (dCons (dVar 3) dNil))))))
  (sRet (dC (.bl false)))
  sNext)
  (sSeq (sSet 5 (dOfN (dComp ["_law_one"] [("_law_weight_here", 4)] (dItems (dCall (gF (n + 2) 12) (dCons (dVar 3) dNil))) (gSet 0) (dTr (d2 fLt (dCall (gF (n + 2) 11) (dCons (dVar 0) dNil)) (dSee 1))) (dVar 0))))
  (sSeq (sOwn 6 (dCallW (gF (n + 2) 3) (dCons (dVar 2) dNil)))
  (sSeq (sIf (dOrT (dNotT (dTr (dIsi i_list (dSee 6)))) (dTr (d2 fNe (dOfN (dComp ["_law_one"] [] (dItems (dSee 6)) (gSet 0) dYes (dCall (gF (n + 2) 10) (dCons (dVar 0) dNil)))) (dSee 5))))
  (sRet (dC (.bl false)))
  sNext)
  (sSeq (sIf (dTr (d2 fNe (dOfN (dComp ["_law_one"] [] (dItems (dSee 6)) (gSet 0) dYes (dCall (gF (n + 2) 0) (dCons (dVar 0) dNil)))) (dOfN (dComp ["_law_one"] [] (dItems (dSee 5)) (gSet 0) dYes (dCall (gF (n + 2) 11) (dCons (dVar 0) dNil))))))
  (sRet (dC (.bl false)))
  sNext)
  (sSeq (sExpr (mClr 6))
  (sRet (dAndV (d2 fEq (dCall bLen (dCons (dOfN (dCallW (gF (n + 2) 3) (dCons (dVar 2) dNil))) dNil)) (dCall bLen (dCons (dSee 5) dNil))) (d2 fEq (dCall (gF (n + 2) 10) (dCons (dVar 2) dNil)) (dSee 3))))))))))))
      [.v (.lst (ns.map PV.int)), s1, .v t.pv, s3, s4, s5, s6, s7]) = .ok (.bl true) := by
  have e1 := taken_ok t (n + 1) ot (by omega)
  have e2 := weight_ok t (n + 1) (by omega)
  have e3 := lweight_ok t (n + 1) (by omega)
  have e4 := lothers_ok t (n + 1) (by omega) hc
  have e5 := shorter_ok t n hd hc
  have ol := others_len t
  have ll := less_len t
  have c1 : ∀ s6 s7, dComp ["_law_one"] [("_law_weight_here", 4)] (dItems (dCall (gF (n + 2) 12) (dCons (dVar 3) dNil))) (gSet 0) (dTr (d2 fLt (dCall (gF (n + 2) 11) (dCons (dVar 0) dNil)) (dSee 1))) (dVar 0)
      [.v (.lst (ns.map PV.int)), s1, .v t.pv, .v t.tk, .v (.int (t.w : Nat)), s5, s6, s7] = .ok (t.less.map St.tk) := by
    intro s6 s7
    unfold dComp
    simp only [e_items, e_call, e_cons, e_var, List.getElem?_cons_zero, List.getElem?_cons_succ, e_nil, consR_ok, ok_bind, e4]
    rw [if_pos (by rw [List.length_map]; show _ ≤ 16777216; omega)]
    refine comp_emb St.tk (fun u => decide (u.w < t.w)) St.tk t.others .no fun u hu => ⟨?_, fun _ => rfl⟩
    have du := others_depth t u hu
    have e := lweight_ok u (n + 1) (by omega)
    have hi : decide (((u.w : Nat) : Int) < ((t.w : Nat) : Int)) = decide (u.w < t.w) := decide_eq_decide.mpr (by omega)
    show ((dTr (d2 fLt (dCall (gF (n + 2) 11) (dCons (dVar 0) dNil)) (dSee 1))) [.v u.tk, .v (.int (t.w : Nat))]) = _
    simp [e, hi]
  have mem : ∀ u, u ∈ t.less → u ∈ t.others := fun u hu => (List.mem_filter.mp hu).1
  have c2 : ∀ s7, dComp ["_law_one"] [] (dItems (dSee 6)) (gSet 0) dYes (dCall (gF (n + 2) 10) (dCons (dVar 0) dNil)) [.v (.lst (ns.map PV.int)), s1, .v t.pv, .v t.tk, .v (.int (t.w : Nat)), .v (.lst (t.less.map St.tk)), .own (.lst (t.less.map St.pv)), s7] = .ok (t.less.map St.tk) := by
    intro s7
    unfold dComp
    simp only [e_items, e_see, List.getElem?_cons_zero, List.getElem?_cons_succ, Ow.pv, ok_bind]
    rw [if_pos (by rw [List.length_map]; show _ ≤ 16777216; omega)]
    refine comp_all St.pv St.tk t.less .no fun u hu => ?_
    have := taken_ok u (n + 1) (others_ok t u ot (mem u hu)) (by have := others_depth t u (mem u hu); omega)
    simp [this]
  have c3 : ∀ s7, dComp ["_law_one"] [] (dItems (dSee 6)) (gSet 0) dYes (dCall (gF (n + 2) 0) (dCons (dVar 0) dNil)) [.v (.lst (ns.map PV.int)), s1, .v t.pv, .v t.tk, .v (.int (t.w : Nat)), .v (.lst (t.less.map St.tk)), .own (.lst (t.less.map St.pv)), s7] = .ok (t.less.map fun u => .int (u.w : Nat)) := by
    intro s7
    unfold dComp
    simp only [e_items, e_see, List.getElem?_cons_zero, List.getElem?_cons_succ, Ow.pv, ok_bind]
    rw [if_pos (by rw [List.length_map]; show _ ≤ 16777216; omega)]
    refine comp_all St.pv (fun u => .int (u.w : Nat)) t.less .no fun u hu => ?_
    have := weight_ok u (n + 1) (by have := others_depth t u (mem u hu); omega)
    simp [this]
  have c4 : ∀ s7, dComp ["_law_one"] [] (dItems (dSee 5)) (gSet 0) dYes (dCall (gF (n + 2) 11) (dCons (dVar 0) dNil)) [.v (.lst (ns.map PV.int)), s1, .v t.pv, .v t.tk, .v (.int (t.w : Nat)), .v (.lst (t.less.map St.tk)), .own (.lst (t.less.map St.pv)), s7] = .ok (t.less.map fun u => .int (u.w : Nat)) := by
    intro s7
    unfold dComp
    simp only [e_items, e_see, List.getElem?_cons_zero, List.getElem?_cons_succ, Ow.pv, ok_bind]
    rw [if_pos (by rw [List.length_map]; show _ ≤ 16777216; omega)]
    refine comp_all St.tk (fun u => .int (u.w : Nat)) t.less .no fun u hu => ?_
    have := lweight_ok u (n + 1) (by have := others_depth t u (mem u hu); omega)
    simp [this]
  have td := tk_depth t
  have q1 : fNe (.lst (t.less.map St.tk)) (.lst (t.less.map St.tk)) = .ok (.bl false) := fNe_self (pdata_map _ _ fun u _ => tk_data u) (by
    have := pdepths_map St.tk 91 t.less fun u hu => by have := tk_depth u; have := others_depth t u (mem u hu); omega
    rw [PV.depth]; omega)
  have q2 : fNe (.lst (t.less.map fun u => .int (u.w : Nat))) (.lst (t.less.map fun u => .int (u.w : Nat))) = .ok (.bl false) := fNe_self (pdata_map _ _ fun u _ => rfl) (by
    have := pdepths_map (fun u : St => PV.int (u.w : Nat)) 0 t.less fun u hu => Nat.le_refl _
    rw [PV.depth]; omega)
  have q3 : fEq t.tk t.tk = .ok (.bl true) := fEq_self (tk_data t) (by omega)
  have w1 : ∀ x, isiP i_int (.int x) = .ok (.bl true) := fun _ => rfl
  have w3 : ∀ x, isiP i_bool (.int x) = .ok (.bl false) := fun _ => rfl
  have w2 : ∀ xs, isiP i_list (.lst xs) = .ok (.bl true) := fun _ => rfl
  simp only [e_seq, e_set, e_call, e_cons, e_var, List.getElem?_cons_zero, List.getElem?_cons_succ, e_nil, consR_ok, ok_bind, e1, ok_st, List.set_cons_zero, List.set_cons_succ, next_nx, e2, e_if, e_orT, e_notT, e_Tr, e_isi, e_see, w1, w3, Bool.not_true, orR_f, e_2, e3, bind2_ok, e_neI, beq_self_eq_true, ifR_f, e_next, e_ofN, c1, e_own, e_callW, e5, List.length_cons, List.length_nil, Nat.reduceAdd, Nat.reduceLT, if_true, Ow.pv, w2, c2, q1, c3, c4, q2, e_expr, e_clr, e_ret, e_andV, e_lenL, List.length_map, e_eqI, andVR_t, q3, fin_ret]
theorem main (ns : List Int) (h : ns.length ≤ 63) : gF 220 13 [.lst (ns.map PV.int)] = .ok (.bl true) := by
  rw [g_law, runD_of rfl]
  show fin (d_law (gF 219) [.v (.lst (ns.map PV.int)), .no, .no, .no, .no, .no, .no, .no]) = _
  obtain ⟨z, c0⟩ := cell_ok 218 ns 0
  have c0 : gF 219 4 [.lst (ns.map PV.int), .int 0] = .ok (.int z) := c0
  obtain ⟨c, ec, oc⟩ := deed_at (j := z / 4 % 5) (by omega) (by omega)
  have first : ∃ t : St, fIx (.lst [.obj 9 [.str c], .obj 7 [], .obj 8 [], .obj 9 [.str "P"]]) (.int (z % 4)) = .ok t.pv ∧ t.ok ∧ t.depth = 0 ∧ t.cnt = 1 := by
    have : z % 4 = 0 ∨ z % 4 = 1 ∨ z % 4 = 2 ∨ z % 4 = 3 := by omega
    rcases this with q | q | q | q <;> rw [q]
    · exact ⟨.deed c, rfl, oc, rfl, rfl⟩
    · exact ⟨.skip, rfl, True.intro, rfl, rfl⟩
    · exact ⟨.stop, rfl, True.intro, rfl, rfl⟩
    · exact ⟨.deed "P", rfl, .inl rfl, rfl, rfl⟩
  obtain ⟨t, et, ot, dt, ct⟩ := first
  unfold d_law b_law_1 b_law_2
  by_cases hq : z / 20 % 4 = 1
  · obtain ⟨z1, k1, l1⟩ := cut_map ns (some 1) (some 3)
    have hz1 : z1.length ≤ 2 := by rw [l1]; simp only [HT.sIx]; simp; omega
    obtain ⟨u, s7, eu, ou, du, cu⟩ := grown_loop 217 z1 t ot (.v (.lst (ns.map PV.int))) (.v (.int z)) .no .no .no .no .no 0 0 (by omega) (by omega)
    have eu : forD (gSet 7) (sSet 2 (dCall (gF 219 9) (dCons (dVar 2) (dCons (dVar 7) dNil)))) (z1.map PV.int) [.v (.lst (ns.map PV.int)), .v (.int z), .v t.pv, .no, .no, .no, .no, .no] = .nx [.v (.lst (ns.map PV.int)), .v (.int z), .v u.pv, .no, .no, .no, .no, s7] := eu
    have two : ∃ v : St, fIx (.lst [.obj 11 [.obj 2 [.str "a"], u.pv, u.pv], .obj 10 [u.pv, u.pv]]) (.int (z / 80 % 2)) = .ok v.pv ∧ v.ok ∧ v.depth ≤ 20 ∧ v.cnt ≤ 100 := by
      have : z / 80 % 2 = 0 ∨ z / 80 % 2 = 1 := by omega
      rcases this with q | q <;> rw [q]
      · exact ⟨.choice (.named "a") u u, rfl, ⟨.inl rfl, ou, ou⟩, by simp only [St.depth, Tr.depth]; omega, by simp only [St.cnt]; omega⟩
      · exact ⟨.row u u, rfl, ⟨ou, ou⟩, by simp only [St.depth]; omega, by simp only [St.cnt]; omega⟩
    obtain ⟨v, ev, ov, dv, cv⟩ := two
    have fin := law_ok 217 ns v (.v (.int z)) .no .no .no .no s7 ov (by omega) (by omega) (by omega)
    simp only [e_seq, e_set, e_call, e_cons, e_var, e_C, List.getElem?_cons_zero, List.getElem?_cons_succ, e_nil, consR_ok, ok_bind, c0, ok_st, List.set_cons_zero, List.set_cons_succ, next_nx, e_2, e_ofN, e_new, e_see, bind2_ok, e_fIc, ec, et, e_if, e_Tr, e_eqI, hq, beq_self_eq_true, ifR_t, e_for, e_items, e_cut, e_O1, k1, eu, ev,
      show (0 : Int) < 4 ∧ (4 : Int) < 1073741824 from ⟨by decide, by decide⟩, show (0 : Int) < 5 from by decide, show (0 : Int) < 4 from by decide, show (0 : Int) < 20 ∧ (20 : Int) < 1073741824 from ⟨by decide, by decide⟩, show (0 : Int) < 80 ∧ (80 : Int) < 1073741824 from ⟨by decide, by decide⟩, show (0 : Int) < 2 from by decide, if_true, and_self]
    exact fin
  · obtain ⟨z1, k1, l1⟩ := cut_map ns (some 1) (some 5)
    have hz1 : z1.length ≤ 4 := by rw [l1]; simp only [HT.sIx]; simp; omega
    obtain ⟨u, s7, eu, ou, du, cu⟩ := grown_loop 217 z1 t ot (.v (.lst (ns.map PV.int))) (.v (.int z)) .no .no .no .no .no 0 0 (by omega) (by omega)
    have eu : forD (gSet 7) (sSet 2 (dCall (gF 219 9) (dCons (dVar 2) (dCons (dVar 7) dNil)))) (z1.map PV.int) [.v (.lst (ns.map PV.int)), .v (.int z), .v t.pv, .no, .no, .no, .no, .no] = .nx [.v (.lst (ns.map PV.int)), .v (.int z), .v u.pv, .no, .no, .no, .no, s7] := eu
    have fin := law_ok 217 ns u (.v (.int z)) .no .no .no .no s7 ou (by omega) (by omega) (by omega)
    have hb : (z / 20 % 4 == 1) = false := by simpa using hq
    simp only [e_seq, e_set, e_call, e_cons, e_var, e_C, List.getElem?_cons_zero, List.getElem?_cons_succ, e_nil, consR_ok, ok_bind, c0, ok_st, List.set_cons_zero, List.set_cons_succ, next_nx, e_2, e_ofN, e_new, e_see, bind2_ok, e_fIc, ec, et, e_if, e_Tr, e_eqI, hb, ifR_f, e_for, e_items, e_cut, e_O1, k1, eu,
      show (0 : Int) < 4 ∧ (4 : Int) < 1073741824 from ⟨by decide, by decide⟩, show (0 : Int) < 5 from by decide, show (0 : Int) < 4 from by decide, show (0 : Int) < 20 ∧ (20 : Int) < 1073741824 from ⟨by decide, by decide⟩, if_true, and_self]
    exact fin
end M71
end
section
set_option Elab.async false
set_option linter.all false
set_option maxRecDepth 100000
set_option maxHeartbeats 4000000
namespace M71
open PySem L2 DN
def cOf (C0 : Addr) (C1 : Addr) (C2 : Addr) (C3 : Addr) (C4 : Addr) (C5 : Addr) (C6 : Addr) (C7 : Addr) (C8 : Addr) (C9 : Addr) (C10 : Addr) (C11 : Addr) (C12 : Addr) : Nat → Addr
  | 0 => C0
  | 1 => C1
  | 2 => C2
  | 3 => C3
  | 4 => C4
  | 5 => C5
  | 6 => C6
  | 7 => C7
  | 8 => C8
  | 9 => C9
  | 10 => C10
  | 11 => C11
  | 12 => C12
  | _ => 0
abbrev si_Named : Stmt := inClass (top 5) 0
abbrev si_Not : Stmt := inClass (top 6) 0
abbrev si_Both : Stmt := inClass (top 7) 0
abbrev si_Either : Stmt := inClass (top 8) 0
abbrev si_Deed : Stmt := inClass (top 13) 0
abbrev si_Row : Stmt := inClass (top 14) 0
abbrev si_Choice : Stmt := inClass (top 15) 0
abbrev si_Loop : Stmt := inClass (top 16) 0
theorem all_mk {l : PySem.W.OpenLaw} {w : World} {K : PySem.W.Frag} {mg : Str → Option Value} {fa : Addr} {h : Heap} {C0 : Addr} {C1 : Addr} {C2 : Addr} {C3 : Addr} {C4 : Addr} {C5 : Addr} {C6 : Addr} {C7 : Addr} {C8 : Addr} {C9 : Addr} {C10 : Addr} {C11 : Addr} {C12 : Addr} {i2 : Addr} {i3 : Addr} {i4 : Addr} {i5 : Addr} {i9 : Addr} {i10 : Addr} {i11 : Addr} {i12 : Addr} {d0 : Addr} {d1 : Addr} {d2 : Addr} {d3 : Addr} {d4 : Addr} {d5 : Addr} {d6 : Addr} {d7 : Addr} {d8 : Addr} {d9 : Addr} {d10 : Addr} {d11 : Addr} {d12 : Addr} {d13 : Addr} {d14 : Addr} {d15 : Addr} {d16 : Addr} {d17 : Addr} {d18 : Addr} {tLETTERS : Addr} {nLETTERS : Nat} {slLETTERS : Array (Option Value)} {kLETTERS0 : Tok} {kLETTERS1 : Tok} {kLETTERS2 : Tok} {kLETTERS3 : Tok} (X : K.In h) (G : h.Ns mainGlobals mg) (hfa : mg "law" = some (.ref fa))
    (a0 : PySem.W.nsIn K mainGlobals "Test" = some (some (.ref C0)))
    (a1 : PySem.W.nsIn K mainGlobals "Yes" = some (some (.ref C1)))
    (a2 : PySem.W.nsIn K mainGlobals "Named" = some (some (.ref C2)))
    (a3 : PySem.W.nsIn K mainGlobals "Not" = some (some (.ref C3)))
    (a4 : PySem.W.nsIn K mainGlobals "Both" = some (some (.ref C4)))
    (a5 : PySem.W.nsIn K mainGlobals "Either" = some (some (.ref C5)))
    (a6 : PySem.W.nsIn K mainGlobals "Step" = some (some (.ref C6)))
    (a7 : PySem.W.nsIn K mainGlobals "Skip" = some (some (.ref C7)))
    (a8 : PySem.W.nsIn K mainGlobals "Stop" = some (some (.ref C8)))
    (a9 : PySem.W.nsIn K mainGlobals "Deed" = some (some (.ref C9)))
    (a10 : PySem.W.nsIn K mainGlobals "Row" = some (some (.ref C10)))
    (a11 : PySem.W.nsIn K mainGlobals "Choice" = some (some (.ref C11)))
    (a12 : PySem.W.nsIn K mainGlobals "Loop" = some (some (.ref C12)))
    (c0 : ClsF K C0)
    (c1 : ClsF K C1)
    (c2 : ClsF K C2)
    (c3 : ClsF K C3)
    (c4 : ClsF K C4)
    (c5 : ClsF K C5)
    (c6 : ClsF K C6)
    (c7 : ClsF K C7)
    (c8 : ClsF K C8)
    (c9 : ClsF K C9)
    (c10 : ClsF K C10)
    (c11 : ClsF K C11)
    (c12 : ClsF K C12)
    (o1 : PySem.W.findIn K (.ref C1) "__init__" = some (some (.builtin "object.__init__")))
    (e2 : PySem.W.findIn K (.ref C2) "__init__" = some (some (.ref i2)))
    (f2 : PySem.W.isFn K (.ref i2) = true)
    (I2 : FnF K i2 "__init__" "Named.__init__" si_Named)
    (n2_0 : PySem.W.findIn K (.ref C2) "name" = some none)
    (e3 : PySem.W.findIn K (.ref C3) "__init__" = some (some (.ref i3)))
    (f3 : PySem.W.isFn K (.ref i3) = true)
    (I3 : FnF K i3 "__init__" "Not.__init__" si_Not)
    (n3_0 : PySem.W.findIn K (.ref C3) "inner" = some none)
    (e4 : PySem.W.findIn K (.ref C4) "__init__" = some (some (.ref i4)))
    (f4 : PySem.W.isFn K (.ref i4) = true)
    (I4 : FnF K i4 "__init__" "Both.__init__" si_Both)
    (n4_0 : PySem.W.findIn K (.ref C4) "left" = some none)
    (n4_1 : PySem.W.findIn K (.ref C4) "right" = some none)
    (e5 : PySem.W.findIn K (.ref C5) "__init__" = some (some (.ref i5)))
    (f5 : PySem.W.isFn K (.ref i5) = true)
    (I5 : FnF K i5 "__init__" "Either.__init__" si_Either)
    (n5_0 : PySem.W.findIn K (.ref C5) "left" = some none)
    (n5_1 : PySem.W.findIn K (.ref C5) "right" = some none)
    (o7 : PySem.W.findIn K (.ref C7) "__init__" = some (some (.builtin "object.__init__")))
    (o8 : PySem.W.findIn K (.ref C8) "__init__" = some (some (.builtin "object.__init__")))
    (e9 : PySem.W.findIn K (.ref C9) "__init__" = some (some (.ref i9)))
    (f9 : PySem.W.isFn K (.ref i9) = true)
    (I9 : FnF K i9 "__init__" "Deed.__init__" si_Deed)
    (n9_0 : PySem.W.findIn K (.ref C9) "name" = some none)
    (e10 : PySem.W.findIn K (.ref C10) "__init__" = some (some (.ref i10)))
    (f10 : PySem.W.isFn K (.ref i10) = true)
    (I10 : FnF K i10 "__init__" "Row.__init__" si_Row)
    (n10_0 : PySem.W.findIn K (.ref C10) "head" = some none)
    (n10_1 : PySem.W.findIn K (.ref C10) "tail" = some none)
    (e11 : PySem.W.findIn K (.ref C11) "__init__" = some (some (.ref i11)))
    (f11 : PySem.W.isFn K (.ref i11) = true)
    (I11 : FnF K i11 "__init__" "Choice.__init__" si_Choice)
    (n11_0 : PySem.W.findIn K (.ref C11) "test" = some none)
    (n11_1 : PySem.W.findIn K (.ref C11) "yes" = some none)
    (n11_2 : PySem.W.findIn K (.ref C11) "no" = some none)
    (e12 : PySem.W.findIn K (.ref C12) "__init__" = some (some (.ref i12)))
    (f12 : PySem.W.isFn K (.ref i12) = true)
    (I12 : FnF K i12 "__init__" "Loop.__init__" si_Loop)
    (n12_0 : PySem.W.findIn K (.ref C12) "test" = some none)
    (n12_1 : PySem.W.findIn K (.ref C12) "body" = some none)
    (b0 : PySem.W.nsIn K mainGlobals "weight_of" = some (some (.ref d0)))
    (D0 : FnF K d0 "weight_of" "weight_of" s_weight_of)
    (b1 : PySem.W.nsIn K mainGlobals "own_programs" = some (some (.ref d1)))
    (D1 : FnF K d1 "own_programs" "own_programs" s_own_programs)
    (b2 : PySem.W.nsIn K mainGlobals "with_own" = some (some (.ref d2)))
    (D2 : FnF K d2 "with_own" "with_own" s_with_own)
    (b3 : PySem.W.nsIn K mainGlobals "shorter" = some (some (.ref d3)))
    (D3 : FnF K d3 "shorter" "shorter" s_shorter)
    (b4 : PySem.W.nsIn K mainGlobals "_law_cell_at" = some (some (.ref d4)))
    (D4 : FnF K d4 "_law_cell_at" "_law_cell_at" s_l_cell_at)
    (b5 : PySem.W.nsIn K mainGlobals "_law_draw" = some (some (.ref d5)))
    (D5 : FnF K d5 "_law_draw" "_law_draw" s_l_draw)
    (b6 : PySem.W.nsIn K mainGlobals "_law_sign" = some (some (.ref d6)))
    (D6 : FnF K d6 "_law_sign" "_law_sign" s_l_sign)
    (b7 : PySem.W.nsIn K mainGlobals "_law_test" = some (some (.ref d7)))
    (D7 : FnF K d7 "_law_test" "_law_test" s_l_test)
    (b8 : PySem.W.nsIn K mainGlobals "_law_mask" = some (some (.ref d8)))
    (D8 : FnF K d8 "_law_mask" "_law_mask" s_l_mask)
    (b9 : PySem.W.nsIn K mainGlobals "_law_grown" = some (some (.ref d9)))
    (D9 : FnF K d9 "_law_grown" "_law_grown" s_l_grown)
    (b10 : PySem.W.nsIn K mainGlobals "_law_taken" = some (some (.ref d10)))
    (D10 : FnF K d10 "_law_taken" "_law_taken" s_l_taken)
    (b11 : PySem.W.nsIn K mainGlobals "_law_weight" = some (some (.ref d11)))
    (D11 : FnF K d11 "_law_weight" "_law_weight" s_l_weight)
    (b12 : PySem.W.nsIn K mainGlobals "_law_others" = some (some (.ref d12)))
    (D12 : FnF K d12 "_law_others" "_law_others" s_l_others)
    (b13 : PySem.W.nsIn K mainGlobals "law" = some (some (.ref d13)))
    (D13 : FnF K d13 "law" "law" s_law)
    (m14_1 : PySem.W.findIn K (.ref C1) "holds" = some (some (.ref d14)))
    (g14 : PySem.W.isFn K (.ref d14) = true)
    (D14 : FnF K d14 "holds" "Yes.holds" s_Yes_holds)
    (m15_2 : PySem.W.findIn K (.ref C2) "holds" = some (some (.ref d15)))
    (g15 : PySem.W.isFn K (.ref d15) = true)
    (D15 : FnF K d15 "holds" "Named.holds" s_Named_holds)
    (m16_3 : PySem.W.findIn K (.ref C3) "holds" = some (some (.ref d16)))
    (g16 : PySem.W.isFn K (.ref d16) = true)
    (D16 : FnF K d16 "holds" "Not.holds" s_Not_holds)
    (m17_4 : PySem.W.findIn K (.ref C4) "holds" = some (some (.ref d17)))
    (g17 : PySem.W.isFn K (.ref d17) = true)
    (D17 : FnF K d17 "holds" "Both.holds" s_Both_holds)
    (m18_5 : PySem.W.findIn K (.ref C5) "holds" = some (some (.ref d18)))
    (g18 : PySem.W.isFn K (.ref d18) = true)
    (D18 : FnF K d18 "holds" "Either.holds" s_Either_holds)
    (wChoice_0 : PySem.W.kitOne K (.type "NoneType") (.ref C11) = some false)
    (wChoice_1 : PySem.W.kitOne K (.type "bool") (.ref C11) = some false)
    (wChoice_2 : PySem.W.kitOne K (.type "int") (.ref C11) = some false)
    (wChoice_3 : PySem.W.kitOne K (.type "str") (.ref C11) = some false)
    (wChoice_4 : PySem.W.kitOne K (.type "tuple") (.ref C11) = some false)
    (wChoice_5 : PySem.W.kitOne K (.type "list") (.ref C11) = some false)
    (wChoice_6 : PySem.W.kitOne K (.type "dict") (.ref C11) = some false)
    (wChoice_10 : PySem.W.kitOne K (.ref C0) (.ref C11) = some false)
    (wChoice_11 : PySem.W.kitOne K (.ref C1) (.ref C11) = some false)
    (wChoice_12 : PySem.W.kitOne K (.ref C2) (.ref C11) = some false)
    (wChoice_13 : PySem.W.kitOne K (.ref C3) (.ref C11) = some false)
    (wChoice_14 : PySem.W.kitOne K (.ref C4) (.ref C11) = some false)
    (wChoice_15 : PySem.W.kitOne K (.ref C5) (.ref C11) = some false)
    (wChoice_16 : PySem.W.kitOne K (.ref C6) (.ref C11) = some false)
    (wChoice_17 : PySem.W.kitOne K (.ref C7) (.ref C11) = some false)
    (wChoice_18 : PySem.W.kitOne K (.ref C8) (.ref C11) = some false)
    (wChoice_19 : PySem.W.kitOne K (.ref C9) (.ref C11) = some false)
    (wChoice_20 : PySem.W.kitOne K (.ref C10) (.ref C11) = some false)
    (wChoice_21 : PySem.W.kitOne K (.ref C11) (.ref C11) = some true)
    (wChoice_22 : PySem.W.kitOne K (.ref C12) (.ref C11) = some false)
    (wDeed_0 : PySem.W.kitOne K (.type "NoneType") (.ref C9) = some false)
    (wDeed_1 : PySem.W.kitOne K (.type "bool") (.ref C9) = some false)
    (wDeed_2 : PySem.W.kitOne K (.type "int") (.ref C9) = some false)
    (wDeed_3 : PySem.W.kitOne K (.type "str") (.ref C9) = some false)
    (wDeed_4 : PySem.W.kitOne K (.type "tuple") (.ref C9) = some false)
    (wDeed_5 : PySem.W.kitOne K (.type "list") (.ref C9) = some false)
    (wDeed_6 : PySem.W.kitOne K (.type "dict") (.ref C9) = some false)
    (wDeed_10 : PySem.W.kitOne K (.ref C0) (.ref C9) = some false)
    (wDeed_11 : PySem.W.kitOne K (.ref C1) (.ref C9) = some false)
    (wDeed_12 : PySem.W.kitOne K (.ref C2) (.ref C9) = some false)
    (wDeed_13 : PySem.W.kitOne K (.ref C3) (.ref C9) = some false)
    (wDeed_14 : PySem.W.kitOne K (.ref C4) (.ref C9) = some false)
    (wDeed_15 : PySem.W.kitOne K (.ref C5) (.ref C9) = some false)
    (wDeed_16 : PySem.W.kitOne K (.ref C6) (.ref C9) = some false)
    (wDeed_17 : PySem.W.kitOne K (.ref C7) (.ref C9) = some false)
    (wDeed_18 : PySem.W.kitOne K (.ref C8) (.ref C9) = some false)
    (wDeed_19 : PySem.W.kitOne K (.ref C9) (.ref C9) = some true)
    (wDeed_20 : PySem.W.kitOne K (.ref C10) (.ref C9) = some false)
    (wDeed_21 : PySem.W.kitOne K (.ref C11) (.ref C9) = some false)
    (wDeed_22 : PySem.W.kitOne K (.ref C12) (.ref C9) = some false)
    (wLoop_0 : PySem.W.kitOne K (.type "NoneType") (.ref C12) = some false)
    (wLoop_1 : PySem.W.kitOne K (.type "bool") (.ref C12) = some false)
    (wLoop_2 : PySem.W.kitOne K (.type "int") (.ref C12) = some false)
    (wLoop_3 : PySem.W.kitOne K (.type "str") (.ref C12) = some false)
    (wLoop_4 : PySem.W.kitOne K (.type "tuple") (.ref C12) = some false)
    (wLoop_5 : PySem.W.kitOne K (.type "list") (.ref C12) = some false)
    (wLoop_6 : PySem.W.kitOne K (.type "dict") (.ref C12) = some false)
    (wLoop_10 : PySem.W.kitOne K (.ref C0) (.ref C12) = some false)
    (wLoop_11 : PySem.W.kitOne K (.ref C1) (.ref C12) = some false)
    (wLoop_12 : PySem.W.kitOne K (.ref C2) (.ref C12) = some false)
    (wLoop_13 : PySem.W.kitOne K (.ref C3) (.ref C12) = some false)
    (wLoop_14 : PySem.W.kitOne K (.ref C4) (.ref C12) = some false)
    (wLoop_15 : PySem.W.kitOne K (.ref C5) (.ref C12) = some false)
    (wLoop_16 : PySem.W.kitOne K (.ref C6) (.ref C12) = some false)
    (wLoop_17 : PySem.W.kitOne K (.ref C7) (.ref C12) = some false)
    (wLoop_18 : PySem.W.kitOne K (.ref C8) (.ref C12) = some false)
    (wLoop_19 : PySem.W.kitOne K (.ref C9) (.ref C12) = some false)
    (wLoop_20 : PySem.W.kitOne K (.ref C10) (.ref C12) = some false)
    (wLoop_21 : PySem.W.kitOne K (.ref C11) (.ref C12) = some false)
    (wLoop_22 : PySem.W.kitOne K (.ref C12) (.ref C12) = some true)
    (wRow_0 : PySem.W.kitOne K (.type "NoneType") (.ref C10) = some false)
    (wRow_1 : PySem.W.kitOne K (.type "bool") (.ref C10) = some false)
    (wRow_2 : PySem.W.kitOne K (.type "int") (.ref C10) = some false)
    (wRow_3 : PySem.W.kitOne K (.type "str") (.ref C10) = some false)
    (wRow_4 : PySem.W.kitOne K (.type "tuple") (.ref C10) = some false)
    (wRow_5 : PySem.W.kitOne K (.type "list") (.ref C10) = some false)
    (wRow_6 : PySem.W.kitOne K (.type "dict") (.ref C10) = some false)
    (wRow_10 : PySem.W.kitOne K (.ref C0) (.ref C10) = some false)
    (wRow_11 : PySem.W.kitOne K (.ref C1) (.ref C10) = some false)
    (wRow_12 : PySem.W.kitOne K (.ref C2) (.ref C10) = some false)
    (wRow_13 : PySem.W.kitOne K (.ref C3) (.ref C10) = some false)
    (wRow_14 : PySem.W.kitOne K (.ref C4) (.ref C10) = some false)
    (wRow_15 : PySem.W.kitOne K (.ref C5) (.ref C10) = some false)
    (wRow_16 : PySem.W.kitOne K (.ref C6) (.ref C10) = some false)
    (wRow_17 : PySem.W.kitOne K (.ref C7) (.ref C10) = some false)
    (wRow_18 : PySem.W.kitOne K (.ref C8) (.ref C10) = some false)
    (wRow_19 : PySem.W.kitOne K (.ref C9) (.ref C10) = some false)
    (wRow_20 : PySem.W.kitOne K (.ref C10) (.ref C10) = some true)
    (wRow_21 : PySem.W.kitOne K (.ref C11) (.ref C10) = some false)
    (wRow_22 : PySem.W.kitOne K (.ref C12) (.ref C10) = some false)
    (wSkip_0 : PySem.W.kitOne K (.type "NoneType") (.ref C7) = some false)
    (wSkip_1 : PySem.W.kitOne K (.type "bool") (.ref C7) = some false)
    (wSkip_2 : PySem.W.kitOne K (.type "int") (.ref C7) = some false)
    (wSkip_3 : PySem.W.kitOne K (.type "str") (.ref C7) = some false)
    (wSkip_4 : PySem.W.kitOne K (.type "tuple") (.ref C7) = some false)
    (wSkip_5 : PySem.W.kitOne K (.type "list") (.ref C7) = some false)
    (wSkip_6 : PySem.W.kitOne K (.type "dict") (.ref C7) = some false)
    (wSkip_10 : PySem.W.kitOne K (.ref C0) (.ref C7) = some false)
    (wSkip_11 : PySem.W.kitOne K (.ref C1) (.ref C7) = some false)
    (wSkip_12 : PySem.W.kitOne K (.ref C2) (.ref C7) = some false)
    (wSkip_13 : PySem.W.kitOne K (.ref C3) (.ref C7) = some false)
    (wSkip_14 : PySem.W.kitOne K (.ref C4) (.ref C7) = some false)
    (wSkip_15 : PySem.W.kitOne K (.ref C5) (.ref C7) = some false)
    (wSkip_16 : PySem.W.kitOne K (.ref C6) (.ref C7) = some false)
    (wSkip_17 : PySem.W.kitOne K (.ref C7) (.ref C7) = some true)
    (wSkip_18 : PySem.W.kitOne K (.ref C8) (.ref C7) = some false)
    (wSkip_19 : PySem.W.kitOne K (.ref C9) (.ref C7) = some false)
    (wSkip_20 : PySem.W.kitOne K (.ref C10) (.ref C7) = some false)
    (wSkip_21 : PySem.W.kitOne K (.ref C11) (.ref C7) = some false)
    (wSkip_22 : PySem.W.kitOne K (.ref C12) (.ref C7) = some false)
    (wStop_0 : PySem.W.kitOne K (.type "NoneType") (.ref C8) = some false)
    (wStop_1 : PySem.W.kitOne K (.type "bool") (.ref C8) = some false)
    (wStop_2 : PySem.W.kitOne K (.type "int") (.ref C8) = some false)
    (wStop_3 : PySem.W.kitOne K (.type "str") (.ref C8) = some false)
    (wStop_4 : PySem.W.kitOne K (.type "tuple") (.ref C8) = some false)
    (wStop_5 : PySem.W.kitOne K (.type "list") (.ref C8) = some false)
    (wStop_6 : PySem.W.kitOne K (.type "dict") (.ref C8) = some false)
    (wStop_10 : PySem.W.kitOne K (.ref C0) (.ref C8) = some false)
    (wStop_11 : PySem.W.kitOne K (.ref C1) (.ref C8) = some false)
    (wStop_12 : PySem.W.kitOne K (.ref C2) (.ref C8) = some false)
    (wStop_13 : PySem.W.kitOne K (.ref C3) (.ref C8) = some false)
    (wStop_14 : PySem.W.kitOne K (.ref C4) (.ref C8) = some false)
    (wStop_15 : PySem.W.kitOne K (.ref C5) (.ref C8) = some false)
    (wStop_16 : PySem.W.kitOne K (.ref C6) (.ref C8) = some false)
    (wStop_17 : PySem.W.kitOne K (.ref C7) (.ref C8) = some false)
    (wStop_18 : PySem.W.kitOne K (.ref C8) (.ref C8) = some true)
    (wStop_19 : PySem.W.kitOne K (.ref C9) (.ref C8) = some false)
    (wStop_20 : PySem.W.kitOne K (.ref C10) (.ref C8) = some false)
    (wStop_21 : PySem.W.kitOne K (.ref C11) (.ref C8) = some false)
    (wStop_22 : PySem.W.kitOne K (.ref C12) (.ref C8) = some false)
    (wbool_0 : PySem.W.kitOne K (.type "NoneType") (.type "bool") = some false)
    (wbool_1 : PySem.W.kitOne K (.type "bool") (.type "bool") = some true)
    (wbool_2 : PySem.W.kitOne K (.type "int") (.type "bool") = some false)
    (wbool_3 : PySem.W.kitOne K (.type "str") (.type "bool") = some false)
    (wbool_4 : PySem.W.kitOne K (.type "tuple") (.type "bool") = some false)
    (wbool_5 : PySem.W.kitOne K (.type "list") (.type "bool") = some false)
    (wbool_6 : PySem.W.kitOne K (.type "dict") (.type "bool") = some false)
    (wbool_10 : PySem.W.kitOne K (.ref C0) (.type "bool") = some false)
    (wbool_11 : PySem.W.kitOne K (.ref C1) (.type "bool") = some false)
    (wbool_12 : PySem.W.kitOne K (.ref C2) (.type "bool") = some false)
    (wbool_13 : PySem.W.kitOne K (.ref C3) (.type "bool") = some false)
    (wbool_14 : PySem.W.kitOne K (.ref C4) (.type "bool") = some false)
    (wbool_15 : PySem.W.kitOne K (.ref C5) (.type "bool") = some false)
    (wbool_16 : PySem.W.kitOne K (.ref C6) (.type "bool") = some false)
    (wbool_17 : PySem.W.kitOne K (.ref C7) (.type "bool") = some false)
    (wbool_18 : PySem.W.kitOne K (.ref C8) (.type "bool") = some false)
    (wbool_19 : PySem.W.kitOne K (.ref C9) (.type "bool") = some false)
    (wbool_20 : PySem.W.kitOne K (.ref C10) (.type "bool") = some false)
    (wbool_21 : PySem.W.kitOne K (.ref C11) (.type "bool") = some false)
    (wbool_22 : PySem.W.kitOne K (.ref C12) (.type "bool") = some false)
    (wint_0 : PySem.W.kitOne K (.type "NoneType") (.type "int") = some false)
    (wint_1 : PySem.W.kitOne K (.type "bool") (.type "int") = some true)
    (wint_2 : PySem.W.kitOne K (.type "int") (.type "int") = some true)
    (wint_3 : PySem.W.kitOne K (.type "str") (.type "int") = some false)
    (wint_4 : PySem.W.kitOne K (.type "tuple") (.type "int") = some false)
    (wint_5 : PySem.W.kitOne K (.type "list") (.type "int") = some false)
    (wint_6 : PySem.W.kitOne K (.type "dict") (.type "int") = some false)
    (wint_10 : PySem.W.kitOne K (.ref C0) (.type "int") = some false)
    (wint_11 : PySem.W.kitOne K (.ref C1) (.type "int") = some false)
    (wint_12 : PySem.W.kitOne K (.ref C2) (.type "int") = some false)
    (wint_13 : PySem.W.kitOne K (.ref C3) (.type "int") = some false)
    (wint_14 : PySem.W.kitOne K (.ref C4) (.type "int") = some false)
    (wint_15 : PySem.W.kitOne K (.ref C5) (.type "int") = some false)
    (wint_16 : PySem.W.kitOne K (.ref C6) (.type "int") = some false)
    (wint_17 : PySem.W.kitOne K (.ref C7) (.type "int") = some false)
    (wint_18 : PySem.W.kitOne K (.ref C8) (.type "int") = some false)
    (wint_19 : PySem.W.kitOne K (.ref C9) (.type "int") = some false)
    (wint_20 : PySem.W.kitOne K (.ref C10) (.type "int") = some false)
    (wint_21 : PySem.W.kitOne K (.ref C11) (.type "int") = some false)
    (wint_22 : PySem.W.kitOne K (.ref C12) (.type "int") = some false)
    (wlist_0 : PySem.W.kitOne K (.type "NoneType") (.type "list") = some false)
    (wlist_1 : PySem.W.kitOne K (.type "bool") (.type "list") = some false)
    (wlist_2 : PySem.W.kitOne K (.type "int") (.type "list") = some false)
    (wlist_3 : PySem.W.kitOne K (.type "str") (.type "list") = some false)
    (wlist_4 : PySem.W.kitOne K (.type "tuple") (.type "list") = some false)
    (wlist_5 : PySem.W.kitOne K (.type "list") (.type "list") = some true)
    (wlist_6 : PySem.W.kitOne K (.type "dict") (.type "list") = some false)
    (wlist_10 : PySem.W.kitOne K (.ref C0) (.type "list") = some false)
    (wlist_11 : PySem.W.kitOne K (.ref C1) (.type "list") = some false)
    (wlist_12 : PySem.W.kitOne K (.ref C2) (.type "list") = some false)
    (wlist_13 : PySem.W.kitOne K (.ref C3) (.type "list") = some false)
    (wlist_14 : PySem.W.kitOne K (.ref C4) (.type "list") = some false)
    (wlist_15 : PySem.W.kitOne K (.ref C5) (.type "list") = some false)
    (wlist_16 : PySem.W.kitOne K (.ref C6) (.type "list") = some false)
    (wlist_17 : PySem.W.kitOne K (.ref C7) (.type "list") = some false)
    (wlist_18 : PySem.W.kitOne K (.ref C8) (.type "list") = some false)
    (wlist_19 : PySem.W.kitOne K (.ref C9) (.type "list") = some false)
    (wlist_20 : PySem.W.kitOne K (.ref C10) (.type "list") = some false)
    (wlist_21 : PySem.W.kitOne K (.ref C11) (.type "list") = some false)
    (wlist_22 : PySem.W.kitOne K (.ref C12) (.type "list") = some false)
    (bxLETTERS : PySem.W.nsIn K mainGlobals "LETTERS" = some (some (.ref tLETTERS)))
    (lxLETTERS : K.lookup tLETTERS = some ⟨.type "tuple", none, .seq #[.str "a" kLETTERS0, .str "b" kLETTERS1, .str "c" kLETTERS2, .str "d" kLETTERS3] nLETTERS, slLETTERS⟩)
    (zbool : PySem.W.nsIn K mainGlobals "bool" = some none)
    (zenumerate : PySem.W.nsIn K mainGlobals "enumerate" = some none)
    (zint : PySem.W.nsIn K mainGlobals "int" = some none)
    (zisinstance : PySem.W.nsIn K mainGlobals "isinstance" = some none)
    (zlen : PySem.W.nsIn K mainGlobals "len" = some none)
    (zlist : PySem.W.nsIn K mainGlobals "list" = some none)
    (zrange : PySem.W.nsIn K mainGlobals "range" = some none)
    (zsum : PySem.W.nsIn K mainGlobals "sum" = some none) :
    ∃ (cA : Nat → Addr) (fd : FuncData), (∀ (s : Shared) (v : Value), BindsTo s fd ⟨[v], []⟩ [("_law_script", v)]) ∧ ∀ base : Heap, K.In base → base.Ns mainGlobals mg → FnOk l.prog w K mg base CX0 (220 + 3) fa fd ["_law_script"] (spG K (pg cA) [false] (gF 220 13)) := by
  have e := hfa.symm.trans (PySem.W.mg_of X G b13)
  cases e
  obtain ⟨fD0, D0⟩ := D0
  obtain ⟨fD1, D1⟩ := D1
  obtain ⟨fD2, D2⟩ := D2
  obtain ⟨fD3, D3⟩ := D3
  obtain ⟨fD4, D4⟩ := D4
  obtain ⟨fD5, D5⟩ := D5
  obtain ⟨fD6, D6⟩ := D6
  obtain ⟨fD7, D7⟩ := D7
  obtain ⟨fD8, D8⟩ := D8
  obtain ⟨fD9, D9⟩ := D9
  obtain ⟨fD10, D10⟩ := D10
  obtain ⟨fD11, D11⟩ := D11
  obtain ⟨fD12, D12⟩ := D12
  obtain ⟨fD13, D13⟩ := D13
  obtain ⟨fD14, D14⟩ := D14
  obtain ⟨fD15, D15⟩ := D15
  obtain ⟨fD16, D16⟩ := D16
  obtain ⟨fD17, D17⟩ := D17
  obtain ⟨fD18, D18⟩ := D18
  obtain ⟨fI2, I2⟩ := I2
  obtain ⟨fI3, I3⟩ := I3
  obtain ⟨fI4, I4⟩ := I4
  obtain ⟨fI5, I5⟩ := I5
  obtain ⟨fI9, I9⟩ := I9
  obtain ⟨fI10, I10⟩ := I10
  obtain ⟨fI11, I11⟩ := I11
  obtain ⟨fI12, I12⟩ := I12
  have F : Fs K mg (cOf C0 C1 C2 C3 C4 C5 C6 C7 C8 C9 C10 C11 C12) := {
    F_weight_of := ⟨_, fD0, D0, D0.binds fun _ _ _ _ _ _ us hl => match us, hl with | [_], _ => rfl, PySem.W.mg_of X G b0⟩
    F_own_programs := ⟨_, fD1, D1, D1.binds fun _ _ _ _ _ _ us hl => match us, hl with | [_], _ => rfl, PySem.W.mg_of X G b1⟩
    F_with_own := ⟨_, fD2, D2, D2.binds fun _ _ _ _ _ _ us hl => match us, hl with | [_, _, _], _ => rfl, PySem.W.mg_of X G b2⟩
    F_shorter := ⟨_, fD3, D3, D3.binds fun _ _ _ _ _ _ us hl => match us, hl with | [_], _ => rfl, PySem.W.mg_of X G b3⟩
    F_l_cell_at := ⟨_, fD4, D4, D4.binds fun _ _ _ _ _ _ us hl => match us, hl with | [_, _], _ => rfl, PySem.W.mg_of X G b4⟩
    F_l_draw := ⟨_, fD5, D5, D5.binds fun _ _ _ _ _ _ us hl => match us, hl with | [_, _], _ => rfl, PySem.W.mg_of X G b5⟩
    F_l_sign := ⟨_, fD6, D6, D6.binds fun _ _ _ _ _ _ us hl => match us, hl with | [_], _ => rfl, PySem.W.mg_of X G b6⟩
    F_l_test := ⟨_, fD7, D7, D7.binds fun _ _ _ _ _ _ us hl => match us, hl with | [_], _ => rfl, PySem.W.mg_of X G b7⟩
    F_l_mask := ⟨_, fD8, D8, D8.binds fun _ _ _ _ _ _ us hl => match us, hl with | [_], _ => rfl, PySem.W.mg_of X G b8⟩
    F_l_grown := ⟨_, fD9, D9, D9.binds fun _ _ _ _ _ _ us hl => match us, hl with | [_, _], _ => rfl, PySem.W.mg_of X G b9⟩
    F_l_taken := ⟨_, fD10, D10, D10.binds fun _ _ _ _ _ _ us hl => match us, hl with | [_], _ => rfl, PySem.W.mg_of X G b10⟩
    F_l_weight := ⟨_, fD11, D11, D11.binds fun _ _ _ _ _ _ us hl => match us, hl with | [_], _ => rfl, PySem.W.mg_of X G b11⟩
    F_l_others := ⟨_, fD12, D12, D12.binds fun _ _ _ _ _ _ us hl => match us, hl with | [_], _ => rfl, PySem.W.mg_of X G b12⟩
    F_law := ⟨_, fD13, D13, D13.binds fun _ _ _ _ _ _ us hl => match us, hl with | [_], _ => rfl, PySem.W.mg_of X G b13⟩
    F_Yes_holds := ⟨_, fD14, D14, D14.binds fun _ _ _ _ _ _ us hl => match us, hl with | [_, _], _ => rfl, ⟨m14_1, g14, D14.kp⟩⟩
    F_Named_holds := ⟨_, fD15, D15, D15.binds fun _ _ _ _ _ _ us hl => match us, hl with | [_, _], _ => rfl, ⟨m15_2, g15, D15.kp⟩⟩
    F_Not_holds := ⟨_, fD16, D16, D16.binds fun _ _ _ _ _ _ us hl => match us, hl with | [_, _], _ => rfl, ⟨m16_3, g16, D16.kp⟩⟩
    F_Both_holds := ⟨_, fD17, D17, D17.binds fun _ _ _ _ _ _ us hl => match us, hl with | [_, _], _ => rfl, ⟨m17_4, g17, D17.kp⟩⟩
    F_Either_holds := ⟨_, fD18, D18, D18.binds fun _ _ _ _ _ _ us hl => match us, hl with | [_, _], _ => rfl, ⟨m18_5, g18, D18.kp⟩⟩
  }
  obtain ⟨⟨oc, od, kV, dc, pm, an, cd, ct, osl, rfl, ll, cc⟩, kk⟩ := id D13
  refine ⟨(cOf C0 C1 C2 C3 C4 C5 C6 C7 C8 C9 C10 C11 C12), PySem.W.fnOf "law" "law" (defArgs s_law) (defBody s_law) (defScope s_law) .none kV dc pm an cd ct, fun s v => .of_eq rfl, fun base _ _ => ?_⟩
  have C : Ct l.prog w K mg base (cOf C0 C1 C2 C3 C4 C5 C6 C7 C8 C9 C10 C11 C12) := {
    c_Test := PySem.W.mg_of X G a0
    l_Test := c0
    c_Yes := PySem.W.mg_of X G a1
    l_Yes := c1
    c_Named := PySem.W.mg_of X G a2
    l_Named := c2
    c_Not := PySem.W.mg_of X G a3
    l_Not := c3
    c_Both := PySem.W.mg_of X G a4
    l_Both := c4
    c_Either := PySem.W.mg_of X G a5
    l_Either := c5
    c_Step := PySem.W.mg_of X G a6
    l_Step := c6
    c_Skip := PySem.W.mg_of X G a7
    l_Skip := c7
    c_Stop := PySem.W.mg_of X G a8
    l_Stop := c8
    c_Deed := PySem.W.mg_of X G a9
    l_Deed := c9
    c_Row := PySem.W.mg_of X G a10
    l_Row := c10
    c_Choice := PySem.W.mg_of X G a11
    l_Choice := c11
    c_Loop := PySem.W.mg_of X G a12
    l_Loop := c12
    n_Both := ⟨PySem.W.mg_of X G a4, c4.cls, i4, fI4, _, ⟨c4.mks, e4, f4, c4.kp⟩, init_ok2 I4 rfl ⟨rfl, rfl, rfl, by decide +kernel, rfl, by decide +kernel, by decide +kernel⟩ c4.cls n4_0 n4_1 (by decide) (by decide) (by decide) (by decide) (by decide +kernel), I4.binds fun _ _ _ _ _ _ us hl => match us, hl with | [_, _, _], _ => rfl⟩
    n_Choice := ⟨PySem.W.mg_of X G a11, c11.cls, i11, fI11, _, ⟨c11.mks, e11, f11, c11.kp⟩, init_ok3 I11 rfl ⟨rfl, rfl, rfl, by decide +kernel, rfl, by decide +kernel, by decide +kernel⟩ c11.cls n11_0 n11_1 n11_2 (by decide) (by decide) (by decide) (by decide) (by decide) (by decide) (by decide +kernel) (by decide +kernel) (by decide +kernel), I11.binds fun _ _ _ _ _ _ us hl => match us, hl with | [_, _, _, _], _ => rfl⟩
    n_Deed := ⟨PySem.W.mg_of X G a9, c9.cls, i9, fI9, _, ⟨c9.mks, e9, f9, c9.kp⟩, init_ok1 I9 rfl ⟨rfl, rfl, rfl, by decide +kernel, rfl, by decide +kernel, by decide +kernel⟩ c9.cls n9_0 (by decide) (by decide) , I9.binds fun _ _ _ _ _ _ us hl => match us, hl with | [_, _], _ => rfl⟩
    n_Either := ⟨PySem.W.mg_of X G a5, c5.cls, i5, fI5, _, ⟨c5.mks, e5, f5, c5.kp⟩, init_ok2 I5 rfl ⟨rfl, rfl, rfl, by decide +kernel, rfl, by decide +kernel, by decide +kernel⟩ c5.cls n5_0 n5_1 (by decide) (by decide) (by decide) (by decide) (by decide +kernel), I5.binds fun _ _ _ _ _ _ us hl => match us, hl with | [_, _, _], _ => rfl⟩
    n_Loop := ⟨PySem.W.mg_of X G a12, c12.cls, i12, fI12, _, ⟨c12.mks, e12, f12, c12.kp⟩, init_ok2 I12 rfl ⟨rfl, rfl, rfl, by decide +kernel, rfl, by decide +kernel, by decide +kernel⟩ c12.cls n12_0 n12_1 (by decide) (by decide) (by decide) (by decide) (by decide +kernel), I12.binds fun _ _ _ _ _ _ us hl => match us, hl with | [_, _, _], _ => rfl⟩
    n_Named := ⟨PySem.W.mg_of X G a2, c2.cls, i2, fI2, _, ⟨c2.mks, e2, f2, c2.kp⟩, init_ok1 I2 rfl ⟨rfl, rfl, rfl, by decide +kernel, rfl, by decide +kernel, by decide +kernel⟩ c2.cls n2_0 (by decide) (by decide) , I2.binds fun _ _ _ _ _ _ us hl => match us, hl with | [_, _], _ => rfl⟩
    n_Not := ⟨PySem.W.mg_of X G a3, c3.cls, i3, fI3, _, ⟨c3.mks, e3, f3, c3.kp⟩, init_ok1 I3 rfl ⟨rfl, rfl, rfl, by decide +kernel, rfl, by decide +kernel, by decide +kernel⟩ c3.cls n3_0 (by decide) (by decide) , I3.binds fun _ _ _ _ _ _ us hl => match us, hl with | [_, _], _ => rfl⟩
    n_Row := ⟨PySem.W.mg_of X G a10, c10.cls, i10, fI10, _, ⟨c10.mks, e10, f10, c10.kp⟩, init_ok2 I10 rfl ⟨rfl, rfl, rfl, by decide +kernel, rfl, by decide +kernel, by decide +kernel⟩ c10.cls n10_0 n10_1 (by decide) (by decide) (by decide) (by decide) (by decide +kernel), I10.binds fun _ _ _ _ _ _ us hl => match us, hl with | [_, _, _], _ => rfl⟩
    k_Skip := ⟨c7.mks, o7, c7.kp⟩
    k_Stop := ⟨c8.mks, o8, c8.kp⟩
    k_Yes := ⟨c1.mks, o1, c1.kp⟩
    f_body := (fl_cons c12.cls n12_1 (show (fN 12).Nodup by decide +kernel) rfl fl_nil)
    f_head := (fl_cons c10.cls n10_0 (show (fN 10).Nodup by decide +kernel) rfl fl_nil)
    f_inner := (fl_cons c3.cls n3_0 (show (fN 3).Nodup by decide +kernel) rfl fl_nil)
    f_left := (fl_cons c4.cls n4_0 (show (fN 4).Nodup by decide +kernel) rfl (fl_cons c5.cls n5_0 (show (fN 5).Nodup by decide +kernel) rfl fl_nil))
    f_name := (fl_cons c2.cls n2_0 (show (fN 2).Nodup by decide +kernel) rfl (fl_cons c9.cls n9_0 (show (fN 9).Nodup by decide +kernel) rfl fl_nil))
    f_no := (fl_cons c11.cls n11_2 (show (fN 11).Nodup by decide +kernel) rfl fl_nil)
    f_right := (fl_cons c4.cls n4_1 (show (fN 4).Nodup by decide +kernel) rfl (fl_cons c5.cls n5_1 (show (fN 5).Nodup by decide +kernel) rfl fl_nil))
    f_tail := (fl_cons c10.cls n10_1 (show (fN 10).Nodup by decide +kernel) rfl fl_nil)
    f_test := (fl_cons c11.cls n11_0 (show (fN 11).Nodup by decide +kernel) rfl (fl_cons c12.cls n12_0 (show (fN 12).Nodup by decide +kernel) rfl fl_nil))
    f_yes := (fl_cons c11.cls n11_1 (show (fN 11).Nodup by decide +kernel) rfl fl_nil)
    i_Choice := (is_cons wChoice_0 (by decide) (is_cons wChoice_1 (by decide) (is_cons wChoice_2 (by decide) (is_cons wChoice_3 (by decide) (is_cons wChoice_4 (by decide) (is_cons wChoice_5 (by decide) (is_cons wChoice_6 (by decide) (is_consC wChoice_10 (clsTy c0) (is_consC wChoice_11 (clsTy c1) (is_consC wChoice_12 (clsTy c2) (is_consC wChoice_13 (clsTy c3) (is_consC wChoice_14 (clsTy c4) (is_consC wChoice_15 (clsTy c5) (is_consC wChoice_16 (clsTy c6) (is_consC wChoice_17 (clsTy c7) (is_consC wChoice_18 (clsTy c8) (is_consC wChoice_19 (clsTy c9) (is_consC wChoice_20 (clsTy c10) (is_consC wChoice_21 (clsTy c11) (is_consC wChoice_22 (clsTy c12) is_nil))))))))))))))))))))
    i_Deed := (is_cons wDeed_0 (by decide) (is_cons wDeed_1 (by decide) (is_cons wDeed_2 (by decide) (is_cons wDeed_3 (by decide) (is_cons wDeed_4 (by decide) (is_cons wDeed_5 (by decide) (is_cons wDeed_6 (by decide) (is_consC wDeed_10 (clsTy c0) (is_consC wDeed_11 (clsTy c1) (is_consC wDeed_12 (clsTy c2) (is_consC wDeed_13 (clsTy c3) (is_consC wDeed_14 (clsTy c4) (is_consC wDeed_15 (clsTy c5) (is_consC wDeed_16 (clsTy c6) (is_consC wDeed_17 (clsTy c7) (is_consC wDeed_18 (clsTy c8) (is_consC wDeed_19 (clsTy c9) (is_consC wDeed_20 (clsTy c10) (is_consC wDeed_21 (clsTy c11) (is_consC wDeed_22 (clsTy c12) is_nil))))))))))))))))))))
    i_Loop := (is_cons wLoop_0 (by decide) (is_cons wLoop_1 (by decide) (is_cons wLoop_2 (by decide) (is_cons wLoop_3 (by decide) (is_cons wLoop_4 (by decide) (is_cons wLoop_5 (by decide) (is_cons wLoop_6 (by decide) (is_consC wLoop_10 (clsTy c0) (is_consC wLoop_11 (clsTy c1) (is_consC wLoop_12 (clsTy c2) (is_consC wLoop_13 (clsTy c3) (is_consC wLoop_14 (clsTy c4) (is_consC wLoop_15 (clsTy c5) (is_consC wLoop_16 (clsTy c6) (is_consC wLoop_17 (clsTy c7) (is_consC wLoop_18 (clsTy c8) (is_consC wLoop_19 (clsTy c9) (is_consC wLoop_20 (clsTy c10) (is_consC wLoop_21 (clsTy c11) (is_consC wLoop_22 (clsTy c12) is_nil))))))))))))))))))))
    i_Row := (is_cons wRow_0 (by decide) (is_cons wRow_1 (by decide) (is_cons wRow_2 (by decide) (is_cons wRow_3 (by decide) (is_cons wRow_4 (by decide) (is_cons wRow_5 (by decide) (is_cons wRow_6 (by decide) (is_consC wRow_10 (clsTy c0) (is_consC wRow_11 (clsTy c1) (is_consC wRow_12 (clsTy c2) (is_consC wRow_13 (clsTy c3) (is_consC wRow_14 (clsTy c4) (is_consC wRow_15 (clsTy c5) (is_consC wRow_16 (clsTy c6) (is_consC wRow_17 (clsTy c7) (is_consC wRow_18 (clsTy c8) (is_consC wRow_19 (clsTy c9) (is_consC wRow_20 (clsTy c10) (is_consC wRow_21 (clsTy c11) (is_consC wRow_22 (clsTy c12) is_nil))))))))))))))))))))
    i_Skip := (is_cons wSkip_0 (by decide) (is_cons wSkip_1 (by decide) (is_cons wSkip_2 (by decide) (is_cons wSkip_3 (by decide) (is_cons wSkip_4 (by decide) (is_cons wSkip_5 (by decide) (is_cons wSkip_6 (by decide) (is_consC wSkip_10 (clsTy c0) (is_consC wSkip_11 (clsTy c1) (is_consC wSkip_12 (clsTy c2) (is_consC wSkip_13 (clsTy c3) (is_consC wSkip_14 (clsTy c4) (is_consC wSkip_15 (clsTy c5) (is_consC wSkip_16 (clsTy c6) (is_consC wSkip_17 (clsTy c7) (is_consC wSkip_18 (clsTy c8) (is_consC wSkip_19 (clsTy c9) (is_consC wSkip_20 (clsTy c10) (is_consC wSkip_21 (clsTy c11) (is_consC wSkip_22 (clsTy c12) is_nil))))))))))))))))))))
    i_Stop := (is_cons wStop_0 (by decide) (is_cons wStop_1 (by decide) (is_cons wStop_2 (by decide) (is_cons wStop_3 (by decide) (is_cons wStop_4 (by decide) (is_cons wStop_5 (by decide) (is_cons wStop_6 (by decide) (is_consC wStop_10 (clsTy c0) (is_consC wStop_11 (clsTy c1) (is_consC wStop_12 (clsTy c2) (is_consC wStop_13 (clsTy c3) (is_consC wStop_14 (clsTy c4) (is_consC wStop_15 (clsTy c5) (is_consC wStop_16 (clsTy c6) (is_consC wStop_17 (clsTy c7) (is_consC wStop_18 (clsTy c8) (is_consC wStop_19 (clsTy c9) (is_consC wStop_20 (clsTy c10) (is_consC wStop_21 (clsTy c11) (is_consC wStop_22 (clsTy c12) is_nil))))))))))))))))))))
    i_bool := (is_cons wbool_0 (by decide) (is_cons wbool_1 (by decide) (is_cons wbool_2 (by decide) (is_cons wbool_3 (by decide) (is_cons wbool_4 (by decide) (is_cons wbool_5 (by decide) (is_cons wbool_6 (by decide) (is_consC wbool_10 (clsTy c0) (is_consC wbool_11 (clsTy c1) (is_consC wbool_12 (clsTy c2) (is_consC wbool_13 (clsTy c3) (is_consC wbool_14 (clsTy c4) (is_consC wbool_15 (clsTy c5) (is_consC wbool_16 (clsTy c6) (is_consC wbool_17 (clsTy c7) (is_consC wbool_18 (clsTy c8) (is_consC wbool_19 (clsTy c9) (is_consC wbool_20 (clsTy c10) (is_consC wbool_21 (clsTy c11) (is_consC wbool_22 (clsTy c12) is_nil))))))))))))))))))))
    i_int := (is_cons wint_0 (by decide) (is_cons wint_1 (by decide) (is_cons wint_2 (by decide) (is_cons wint_3 (by decide) (is_cons wint_4 (by decide) (is_cons wint_5 (by decide) (is_cons wint_6 (by decide) (is_consC wint_10 (clsTy c0) (is_consC wint_11 (clsTy c1) (is_consC wint_12 (clsTy c2) (is_consC wint_13 (clsTy c3) (is_consC wint_14 (clsTy c4) (is_consC wint_15 (clsTy c5) (is_consC wint_16 (clsTy c6) (is_consC wint_17 (clsTy c7) (is_consC wint_18 (clsTy c8) (is_consC wint_19 (clsTy c9) (is_consC wint_20 (clsTy c10) (is_consC wint_21 (clsTy c11) (is_consC wint_22 (clsTy c12) is_nil))))))))))))))))))))
    i_list := (is_cons wlist_0 (by decide) (is_cons wlist_1 (by decide) (is_cons wlist_2 (by decide) (is_cons wlist_3 (by decide) (is_cons wlist_4 (by decide) (is_cons wlist_5 (by decide) (is_cons wlist_6 (by decide) (is_consC wlist_10 (clsTy c0) (is_consC wlist_11 (clsTy c1) (is_consC wlist_12 (clsTy c2) (is_consC wlist_13 (clsTy c3) (is_consC wlist_14 (clsTy c4) (is_consC wlist_15 (clsTy c5) (is_consC wlist_16 (clsTy c6) (is_consC wlist_17 (clsTy c7) (is_consC wlist_18 (clsTy c8) (is_consC wlist_19 (clsTy c9) (is_consC wlist_20 (clsTy c10) (is_consC wlist_21 (clsTy c11) (is_consC wlist_22 (clsTy c12) is_nil))))))))))))))))))))
    e_LETTERS := ⟨tLETTERS, PySem.W.mg_of X G bxLETTERS, topT_mk lxLETTERS (by show 4 ≤ sizeLine; decide) (.cons ⟨_, rfl⟩ (.cons ⟨_, rfl⟩ (.cons ⟨_, rfl⟩ (.cons ⟨_, rfl⟩ (.nil)))))⟩
    z_bool := PySem.W.mg_none_of X G zbool
    z_enumerate := PySem.W.mg_none_of X G zenumerate
    z_int := PySem.W.mg_none_of X G zint
    z_isinstance := PySem.W.mg_none_of X G zisinstance
    z_len := PySem.W.mg_none_of X G zlen
    z_list := PySem.W.mg_none_of X G zlist
    z_range := PySem.W.mg_none_of X G zrange
    z_sum := PySem.W.mg_none_of X G zsum
  }
  obtain ⟨f', fd', ps', e1, e2, e3, e4⟩ := (all_fn C F 220).h_law.ex
  exact fn_ok D13 sc_law rfl fun _ _ _ _ _ _ hr => b_law C (all_fn C F 219) hr
end M71
def PySem.W.Fast.tw9469331375608888505 : Nat := 0
def PySem.W.Fast.tw3284894661863002961 : Nat := 0
def PySem.W.Fast.tw4450588381591819468 : Nat := 0
def PySem.W.Fast.tw12489814874693675564 : Nat := 0
def PySem.W.Fast.tw823163653943832813 : Nat := 0
def PySem.W.Fast.tw6169269306363298187 : Nat := 0
def PySem.W.Fast.tw16059912406988348778 : Nat := 0
def PySem.W.Fast.tw17147915858702600374 : Nat := 0
def PySem.W.Fast.tw17817677083363105126 : Nat := 0
def PySem.W.Fast.tw13666854933926005210 : Nat := 0
def PySem.W.Fast.tw17569902119130736250 : Nat := 0
def PySem.W.Fast.tw3077375896389773716 : Nat := 0
def PySem.W.Fast.tw7125523922878006437 : Nat := 0
def PySem.W.Fast.tw1707811680036796739 : Nat := 0
def PySem.W.Fast.tw12116599988615637633 : Nat := 0
def PySem.W.Fast.tw3891203150228848082 : Nat := 0
def PySem.W.Fast.tw8109857947315378310 : Nat := 0
def PySem.W.Fast.tw5310522781056647882 : Nat := 0
open PySem PySem.W PyProof.Rows
set_option maxRecDepth 100000 in
set_option maxHeartbeats 0 in
theorem PySem.Challenge.cw_anymeaning_k71_shorter_ones_holds : PySem.Challenge.rw_anymeaning_k71_shorter_ones.Holds := by
  w_on; o_law; k_head; (case hw => w_witness2)
  k_fill
  refine L2.walk_ofK (l := PySem.Challenge.rw_anymeaning_k71_shorter_ones) (n := 63) (k := 220 + 3) (x := "_law_script") (CX := L2.CX0) (sp := fun K => DN.spL K M71.fN (M71.gF 220 13)) rfl (by decide) rfl ⟨rfl, by decide, by decide⟩ (fun w h Y => PySem.W.kIn_of Y) ?F (fun K H a ns hl hO hS cA => DN.law_sp hO hS (M71.main ns hl)) (fun _ _ _ _ z => z)
  case F =>
    intro w mg fa h KX G hmg
    refine DN.law_of ?_
    refine' M71.all_mk KX G hmg ?kka0 ?kka1 ?kka2 ?kka3 ?kka4 ?kka5 ?kka6 ?kka7 ?kka8 ?kka9 ?kka10 ?kka11 ?kka12 ?kkc0 ?kkc1 ?kkc2 ?kkc3 ?kkc4 ?kkc5 ?kkc6 ?kkc7 ?kkc8 ?kkc9 ?kkc10 ?kkc11 ?kkc12 ?kko1 ?kke2 ?kkf2 ?kkI2 ?kkn2_0 ?kke3 ?kkf3 ?kkI3 ?kkn3_0 ?kke4 ?kkf4 ?kkI4 ?kkn4_0 ?kkn4_1 ?kke5 ?kkf5 ?kkI5 ?kkn5_0 ?kkn5_1 ?kko7 ?kko8 ?kke9 ?kkf9 ?kkI9 ?kkn9_0 ?kke10 ?kkf10 ?kkI10 ?kkn10_0 ?kkn10_1 ?kke11 ?kkf11 ?kkI11 ?kkn11_0 ?kkn11_1 ?kkn11_2 ?kke12 ?kkf12 ?kkI12 ?kkn12_0 ?kkn12_1 ?kkb0 ?kkD0 ?kkb1 ?kkD1 ?kkb2 ?kkD2 ?kkb3 ?kkD3 ?kkb4 ?kkD4 ?kkb5 ?kkD5 ?kkb6 ?kkD6 ?kkb7 ?kkD7 ?kkb8 ?kkD8 ?kkb9 ?kkD9 ?kkb10 ?kkD10 ?kkb11 ?kkD11 ?kkb12 ?kkD12 ?kkb13 ?kkD13 ?kkm14_1 ?kkg14 ?kkD14 ?kkm15_2 ?kkg15 ?kkD15 ?kkm16_3 ?kkg16 ?kkD16 ?kkm17_4 ?kkg17 ?kkD17 ?kkm18_5 ?kkg18 ?kkD18 ?kkwChoice_0 ?kkwChoice_1 ?kkwChoice_2 ?kkwChoice_3 ?kkwChoice_4 ?kkwChoice_5 ?kkwChoice_6 ?kkwChoice_10 ?kkwChoice_11 ?kkwChoice_12 ?kkwChoice_13 ?kkwChoice_14 ?kkwChoice_15 ?kkwChoice_16 ?kkwChoice_17 ?kkwChoice_18 ?kkwChoice_19 ?kkwChoice_20 ?kkwChoice_21 ?kkwChoice_22 ?kkwDeed_0 ?kkwDeed_1 ?kkwDeed_2 ?kkwDeed_3 ?kkwDeed_4 ?kkwDeed_5 ?kkwDeed_6 ?kkwDeed_10 ?kkwDeed_11 ?kkwDeed_12 ?kkwDeed_13 ?kkwDeed_14 ?kkwDeed_15 ?kkwDeed_16 ?kkwDeed_17 ?kkwDeed_18 ?kkwDeed_19 ?kkwDeed_20 ?kkwDeed_21 ?kkwDeed_22 ?kkwLoop_0 ?kkwLoop_1 ?kkwLoop_2 ?kkwLoop_3 ?kkwLoop_4 ?kkwLoop_5 ?kkwLoop_6 ?kkwLoop_10 ?kkwLoop_11 ?kkwLoop_12 ?kkwLoop_13 ?kkwLoop_14 ?kkwLoop_15 ?kkwLoop_16 ?kkwLoop_17 ?kkwLoop_18 ?kkwLoop_19 ?kkwLoop_20 ?kkwLoop_21 ?kkwLoop_22 ?kkwRow_0 ?kkwRow_1 ?kkwRow_2 ?kkwRow_3 ?kkwRow_4 ?kkwRow_5 ?kkwRow_6 ?kkwRow_10 ?kkwRow_11 ?kkwRow_12 ?kkwRow_13 ?kkwRow_14 ?kkwRow_15 ?kkwRow_16 ?kkwRow_17 ?kkwRow_18 ?kkwRow_19 ?kkwRow_20 ?kkwRow_21 ?kkwRow_22 ?kkwSkip_0 ?kkwSkip_1 ?kkwSkip_2 ?kkwSkip_3 ?kkwSkip_4 ?kkwSkip_5 ?kkwSkip_6 ?kkwSkip_10 ?kkwSkip_11 ?kkwSkip_12 ?kkwSkip_13 ?kkwSkip_14 ?kkwSkip_15 ?kkwSkip_16 ?kkwSkip_17 ?kkwSkip_18 ?kkwSkip_19 ?kkwSkip_20 ?kkwSkip_21 ?kkwSkip_22 ?kkwStop_0 ?kkwStop_1 ?kkwStop_2 ?kkwStop_3 ?kkwStop_4 ?kkwStop_5 ?kkwStop_6 ?kkwStop_10 ?kkwStop_11 ?kkwStop_12 ?kkwStop_13 ?kkwStop_14 ?kkwStop_15 ?kkwStop_16 ?kkwStop_17 ?kkwStop_18 ?kkwStop_19 ?kkwStop_20 ?kkwStop_21 ?kkwStop_22 ?kkwbool_0 ?kkwbool_1 ?kkwbool_2 ?kkwbool_3 ?kkwbool_4 ?kkwbool_5 ?kkwbool_6 ?kkwbool_10 ?kkwbool_11 ?kkwbool_12 ?kkwbool_13 ?kkwbool_14 ?kkwbool_15 ?kkwbool_16 ?kkwbool_17 ?kkwbool_18 ?kkwbool_19 ?kkwbool_20 ?kkwbool_21 ?kkwbool_22 ?kkwint_0 ?kkwint_1 ?kkwint_2 ?kkwint_3 ?kkwint_4 ?kkwint_5 ?kkwint_6 ?kkwint_10 ?kkwint_11 ?kkwint_12 ?kkwint_13 ?kkwint_14 ?kkwint_15 ?kkwint_16 ?kkwint_17 ?kkwint_18 ?kkwint_19 ?kkwint_20 ?kkwint_21 ?kkwint_22 ?kkwlist_0 ?kkwlist_1 ?kkwlist_2 ?kkwlist_3 ?kkwlist_4 ?kkwlist_5 ?kkwlist_6 ?kkwlist_10 ?kkwlist_11 ?kkwlist_12 ?kkwlist_13 ?kkwlist_14 ?kkwlist_15 ?kkwlist_16 ?kkwlist_17 ?kkwlist_18 ?kkwlist_19 ?kkwlist_20 ?kkwlist_21 ?kkwlist_22 ?kkbxLETTERS ?kklxLETTERS ?kkzbool ?kkzenumerate ?kkzint ?kkzisinstance ?kkzlen ?kkzlist ?kkzrange ?kkzsum
    (case kka0 => k_is)
    (case kka1 => k_is)
    (case kka2 => k_is)
    (case kka3 => k_is)
    (case kka4 => k_is)
    (case kka5 => k_is)
    (case kka6 => k_is)
    (case kka7 => k_is)
    (case kka8 => k_is)
    (case kka9 => k_is)
    (case kka10 => k_is)
    (case kka11 => k_is)
    (case kka12 => k_is)
    (case kkc0 => exact ⟨by k_is, by k_is, by k_is, by k_is, by k_is, by k_is, by k_is, by k_is, by k_is, by k_is⟩)
    (case kkc1 => exact ⟨by k_is, by k_is, by k_is, by k_is, by k_is, by k_is, by k_is, by k_is, by k_is, by k_is⟩)
    (case kkc2 => exact ⟨by k_is, by k_is, by k_is, by k_is, by k_is, by k_is, by k_is, by k_is, by k_is, by k_is⟩)
    (case kkc3 => exact ⟨by k_is, by k_is, by k_is, by k_is, by k_is, by k_is, by k_is, by k_is, by k_is, by k_is⟩)
    (case kkc4 => exact ⟨by k_is, by k_is, by k_is, by k_is, by k_is, by k_is, by k_is, by k_is, by k_is, by k_is⟩)
    (case kkc5 => exact ⟨by k_is, by k_is, by k_is, by k_is, by k_is, by k_is, by k_is, by k_is, by k_is, by k_is⟩)
    (case kkc6 => exact ⟨by k_is, by k_is, by k_is, by k_is, by k_is, by k_is, by k_is, by k_is, by k_is, by k_is⟩)
    (case kkc7 => exact ⟨by k_is, by k_is, by k_is, by k_is, by k_is, by k_is, by k_is, by k_is, by k_is, by k_is⟩)
    (case kkc8 => exact ⟨by k_is, by k_is, by k_is, by k_is, by k_is, by k_is, by k_is, by k_is, by k_is, by k_is⟩)
    (case kkc9 => exact ⟨by k_is, by k_is, by k_is, by k_is, by k_is, by k_is, by k_is, by k_is, by k_is, by k_is⟩)
    (case kkc10 => exact ⟨by k_is, by k_is, by k_is, by k_is, by k_is, by k_is, by k_is, by k_is, by k_is, by k_is⟩)
    (case kkc11 => exact ⟨by k_is, by k_is, by k_is, by k_is, by k_is, by k_is, by k_is, by k_is, by k_is, by k_is⟩)
    (case kkc12 => exact ⟨by k_is, by k_is, by k_is, by k_is, by k_is, by k_is, by k_is, by k_is, by k_is, by k_is⟩)
    (case kko1 => k_is)
    (case kke2 => k_is)
    (case kkf2 => k_is)
    (case kkI2 => (refine' L2.fnf_mk ?l ?c ?k; (case l => k_is); (case c => k_is); (case k => k_is)))
    (case kkn2_0 => k_is)
    (case kke3 => k_is)
    (case kkf3 => k_is)
    (case kkI3 => (refine' L2.fnf_mk ?l ?c ?k; (case l => k_is); (case c => k_is); (case k => k_is)))
    (case kkn3_0 => k_is)
    (case kke4 => k_is)
    (case kkf4 => k_is)
    (case kkI4 => (refine' L2.fnf_mk ?l ?c ?k; (case l => k_is); (case c => k_is); (case k => k_is)))
    (case kkn4_0 => k_is)
    (case kkn4_1 => k_is)
    (case kke5 => k_is)
    (case kkf5 => k_is)
    (case kkI5 => (refine' L2.fnf_mk ?l ?c ?k; (case l => k_is); (case c => k_is); (case k => k_is)))
    (case kkn5_0 => k_is)
    (case kkn5_1 => k_is)
    (case kko7 => k_is)
    (case kko8 => k_is)
    (case kke9 => k_is)
    (case kkf9 => k_is)
    (case kkI9 => (refine' L2.fnf_mk ?l ?c ?k; (case l => k_is); (case c => k_is); (case k => k_is)))
    (case kkn9_0 => k_is)
    (case kke10 => k_is)
    (case kkf10 => k_is)
    (case kkI10 => (refine' L2.fnf_mk ?l ?c ?k; (case l => k_is); (case c => k_is); (case k => k_is)))
    (case kkn10_0 => k_is)
    (case kkn10_1 => k_is)
    (case kke11 => k_is)
    (case kkf11 => k_is)
    (case kkI11 => (refine' L2.fnf_mk ?l ?c ?k; (case l => k_is); (case c => k_is); (case k => k_is)))
    (case kkn11_0 => k_is)
    (case kkn11_1 => k_is)
    (case kkn11_2 => k_is)
    (case kke12 => k_is)
    (case kkf12 => k_is)
    (case kkI12 => (refine' L2.fnf_mk ?l ?c ?k; (case l => k_is); (case c => k_is); (case k => k_is)))
    (case kkn12_0 => k_is)
    (case kkn12_1 => k_is)
    (case kkb0 => k_is)
    (case kkD0 => (refine' L2.fnf_mk ?l ?c ?k; (case l => k_is); (case c => k_is); (case k => k_is)))
    (case kkb1 => k_is)
    (case kkD1 => (refine' L2.fnf_mk ?l ?c ?k; (case l => k_is); (case c => k_is); (case k => k_is)))
    (case kkb2 => k_is)
    (case kkD2 => (refine' L2.fnf_mk ?l ?c ?k; (case l => k_is); (case c => k_is); (case k => k_is)))
    (case kkb3 => k_is)
    (case kkD3 => (refine' L2.fnf_mk ?l ?c ?k; (case l => k_is); (case c => k_is); (case k => k_is)))
    (case kkb4 => k_is)
    (case kkD4 => (refine' L2.fnf_mk ?l ?c ?k; (case l => k_is); (case c => k_is); (case k => k_is)))
    (case kkb5 => k_is)
    (case kkD5 => (refine' L2.fnf_mk ?l ?c ?k; (case l => k_is); (case c => k_is); (case k => k_is)))
    (case kkb6 => k_is)
    (case kkD6 => (refine' L2.fnf_mk ?l ?c ?k; (case l => k_is); (case c => k_is); (case k => k_is)))
    (case kkb7 => k_is)
    (case kkD7 => (refine' L2.fnf_mk ?l ?c ?k; (case l => k_is); (case c => k_is); (case k => k_is)))
    (case kkb8 => k_is)
    (case kkD8 => (refine' L2.fnf_mk ?l ?c ?k; (case l => k_is); (case c => k_is); (case k => k_is)))
    (case kkb9 => k_is)
    (case kkD9 => (refine' L2.fnf_mk ?l ?c ?k; (case l => k_is); (case c => k_is); (case k => k_is)))
    (case kkb10 => k_is)
    (case kkD10 => (refine' L2.fnf_mk ?l ?c ?k; (case l => k_is); (case c => k_is); (case k => k_is)))
    (case kkb11 => k_is)
    (case kkD11 => (refine' L2.fnf_mk ?l ?c ?k; (case l => k_is); (case c => k_is); (case k => k_is)))
    (case kkb12 => k_is)
    (case kkD12 => (refine' L2.fnf_mk ?l ?c ?k; (case l => k_is); (case c => k_is); (case k => k_is)))
    (case kkb13 => k_is)
    (case kkD13 => (refine' L2.fnf_mk ?l ?c ?k; (case l => k_is); (case c => k_is); (case k => k_is)))
    (case kkm14_1 => k_is)
    (case kkg14 => k_is)
    (case kkD14 => (refine' L2.fnf_mk ?l ?c ?k; (case l => k_is); (case c => k_is); (case k => k_is)))
    (case kkm15_2 => k_is)
    (case kkg15 => k_is)
    (case kkD15 => (refine' L2.fnf_mk ?l ?c ?k; (case l => k_is); (case c => k_is); (case k => k_is)))
    (case kkm16_3 => k_is)
    (case kkg16 => k_is)
    (case kkD16 => (refine' L2.fnf_mk ?l ?c ?k; (case l => k_is); (case c => k_is); (case k => k_is)))
    (case kkm17_4 => k_is)
    (case kkg17 => k_is)
    (case kkD17 => (refine' L2.fnf_mk ?l ?c ?k; (case l => k_is); (case c => k_is); (case k => k_is)))
    (case kkm18_5 => k_is)
    (case kkg18 => k_is)
    (case kkD18 => (refine' L2.fnf_mk ?l ?c ?k; (case l => k_is); (case c => k_is); (case k => k_is)))
    (case kkwChoice_0 => kit_is)
    (case kkwChoice_1 => kit_is)
    (case kkwChoice_2 => kit_is)
    (case kkwChoice_3 => kit_is)
    (case kkwChoice_4 => kit_is)
    (case kkwChoice_5 => kit_is)
    (case kkwChoice_6 => kit_is)
    (case kkwChoice_10 => kit_is)
    (case kkwChoice_11 => kit_is)
    (case kkwChoice_12 => kit_is)
    (case kkwChoice_13 => kit_is)
    (case kkwChoice_14 => kit_is)
    (case kkwChoice_15 => kit_is)
    (case kkwChoice_16 => kit_is)
    (case kkwChoice_17 => kit_is)
    (case kkwChoice_18 => kit_is)
    (case kkwChoice_19 => kit_is)
    (case kkwChoice_20 => kit_is)
    (case kkwChoice_21 => kit_is)
    (case kkwChoice_22 => kit_is)
    (case kkwDeed_0 => kit_is)
    (case kkwDeed_1 => kit_is)
    (case kkwDeed_2 => kit_is)
    (case kkwDeed_3 => kit_is)
    (case kkwDeed_4 => kit_is)
    (case kkwDeed_5 => kit_is)
    (case kkwDeed_6 => kit_is)
    (case kkwDeed_10 => kit_is)
    (case kkwDeed_11 => kit_is)
    (case kkwDeed_12 => kit_is)
    (case kkwDeed_13 => kit_is)
    (case kkwDeed_14 => kit_is)
    (case kkwDeed_15 => kit_is)
    (case kkwDeed_16 => kit_is)
    (case kkwDeed_17 => kit_is)
    (case kkwDeed_18 => kit_is)
    (case kkwDeed_19 => kit_is)
    (case kkwDeed_20 => kit_is)
    (case kkwDeed_21 => kit_is)
    (case kkwDeed_22 => kit_is)
    (case kkwLoop_0 => kit_is)
    (case kkwLoop_1 => kit_is)
    (case kkwLoop_2 => kit_is)
    (case kkwLoop_3 => kit_is)
    (case kkwLoop_4 => kit_is)
    (case kkwLoop_5 => kit_is)
    (case kkwLoop_6 => kit_is)
    (case kkwLoop_10 => kit_is)
    (case kkwLoop_11 => kit_is)
    (case kkwLoop_12 => kit_is)
    (case kkwLoop_13 => kit_is)
    (case kkwLoop_14 => kit_is)
    (case kkwLoop_15 => kit_is)
    (case kkwLoop_16 => kit_is)
    (case kkwLoop_17 => kit_is)
    (case kkwLoop_18 => kit_is)
    (case kkwLoop_19 => kit_is)
    (case kkwLoop_20 => kit_is)
    (case kkwLoop_21 => kit_is)
    (case kkwLoop_22 => kit_is)
    (case kkwRow_0 => kit_is)
    (case kkwRow_1 => kit_is)
    (case kkwRow_2 => kit_is)
    (case kkwRow_3 => kit_is)
    (case kkwRow_4 => kit_is)
    (case kkwRow_5 => kit_is)
    (case kkwRow_6 => kit_is)
    (case kkwRow_10 => kit_is)
    (case kkwRow_11 => kit_is)
    (case kkwRow_12 => kit_is)
    (case kkwRow_13 => kit_is)
    (case kkwRow_14 => kit_is)
    (case kkwRow_15 => kit_is)
    (case kkwRow_16 => kit_is)
    (case kkwRow_17 => kit_is)
    (case kkwRow_18 => kit_is)
    (case kkwRow_19 => kit_is)
    (case kkwRow_20 => kit_is)
    (case kkwRow_21 => kit_is)
    (case kkwRow_22 => kit_is)
    (case kkwSkip_0 => kit_is)
    (case kkwSkip_1 => kit_is)
    (case kkwSkip_2 => kit_is)
    (case kkwSkip_3 => kit_is)
    (case kkwSkip_4 => kit_is)
    (case kkwSkip_5 => kit_is)
    (case kkwSkip_6 => kit_is)
    (case kkwSkip_10 => kit_is)
    (case kkwSkip_11 => kit_is)
    (case kkwSkip_12 => kit_is)
    (case kkwSkip_13 => kit_is)
    (case kkwSkip_14 => kit_is)
    (case kkwSkip_15 => kit_is)
    (case kkwSkip_16 => kit_is)
    (case kkwSkip_17 => kit_is)
    (case kkwSkip_18 => kit_is)
    (case kkwSkip_19 => kit_is)
    (case kkwSkip_20 => kit_is)
    (case kkwSkip_21 => kit_is)
    (case kkwSkip_22 => kit_is)
    (case kkwStop_0 => kit_is)
    (case kkwStop_1 => kit_is)
    (case kkwStop_2 => kit_is)
    (case kkwStop_3 => kit_is)
    (case kkwStop_4 => kit_is)
    (case kkwStop_5 => kit_is)
    (case kkwStop_6 => kit_is)
    (case kkwStop_10 => kit_is)
    (case kkwStop_11 => kit_is)
    (case kkwStop_12 => kit_is)
    (case kkwStop_13 => kit_is)
    (case kkwStop_14 => kit_is)
    (case kkwStop_15 => kit_is)
    (case kkwStop_16 => kit_is)
    (case kkwStop_17 => kit_is)
    (case kkwStop_18 => kit_is)
    (case kkwStop_19 => kit_is)
    (case kkwStop_20 => kit_is)
    (case kkwStop_21 => kit_is)
    (case kkwStop_22 => kit_is)
    (case kkwbool_0 => kit_is)
    (case kkwbool_1 => kit_is)
    (case kkwbool_2 => kit_is)
    (case kkwbool_3 => kit_is)
    (case kkwbool_4 => kit_is)
    (case kkwbool_5 => kit_is)
    (case kkwbool_6 => kit_is)
    (case kkwbool_10 => kit_is)
    (case kkwbool_11 => kit_is)
    (case kkwbool_12 => kit_is)
    (case kkwbool_13 => kit_is)
    (case kkwbool_14 => kit_is)
    (case kkwbool_15 => kit_is)
    (case kkwbool_16 => kit_is)
    (case kkwbool_17 => kit_is)
    (case kkwbool_18 => kit_is)
    (case kkwbool_19 => kit_is)
    (case kkwbool_20 => kit_is)
    (case kkwbool_21 => kit_is)
    (case kkwbool_22 => kit_is)
    (case kkwint_0 => kit_is)
    (case kkwint_1 => kit_is)
    (case kkwint_2 => kit_is)
    (case kkwint_3 => kit_is)
    (case kkwint_4 => kit_is)
    (case kkwint_5 => kit_is)
    (case kkwint_6 => kit_is)
    (case kkwint_10 => kit_is)
    (case kkwint_11 => kit_is)
    (case kkwint_12 => kit_is)
    (case kkwint_13 => kit_is)
    (case kkwint_14 => kit_is)
    (case kkwint_15 => kit_is)
    (case kkwint_16 => kit_is)
    (case kkwint_17 => kit_is)
    (case kkwint_18 => kit_is)
    (case kkwint_19 => kit_is)
    (case kkwint_20 => kit_is)
    (case kkwint_21 => kit_is)
    (case kkwint_22 => kit_is)
    (case kkwlist_0 => kit_is)
    (case kkwlist_1 => kit_is)
    (case kkwlist_2 => kit_is)
    (case kkwlist_3 => kit_is)
    (case kkwlist_4 => kit_is)
    (case kkwlist_5 => kit_is)
    (case kkwlist_6 => kit_is)
    (case kkwlist_10 => kit_is)
    (case kkwlist_11 => kit_is)
    (case kkwlist_12 => kit_is)
    (case kkwlist_13 => kit_is)
    (case kkwlist_14 => kit_is)
    (case kkwlist_15 => kit_is)
    (case kkwlist_16 => kit_is)
    (case kkwlist_17 => kit_is)
    (case kkwlist_18 => kit_is)
    (case kkwlist_19 => kit_is)
    (case kkwlist_20 => kit_is)
    (case kkwlist_21 => kit_is)
    (case kkwlist_22 => kit_is)
    (case kkbxLETTERS => k_is)
    (case kklxLETTERS => k_is)
    (case kkzbool => k_is)
    (case kkzenumerate => k_is)
    (case kkzint => k_is)
    (case kkzisinstance => k_is)
    (case kkzlen => k_is)
    (case kkzlist => k_is)
    (case kkzrange => k_is)
    (case kkzsum => k_is)
#print axioms PySem.Challenge.cw_anymeaning_k71_shorter_ones_holds
end
